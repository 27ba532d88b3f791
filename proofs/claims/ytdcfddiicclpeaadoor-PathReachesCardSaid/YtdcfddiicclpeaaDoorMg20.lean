/- RefAll. -/
import Derived.Test.YtdcfddiicclpeaaDoorMg17
import Derived.Test.YtdcfddiicclpeaaDoorMg18
set_option maxRecDepth 100000
section
namespace Go.Proofs.YtdcfddiicclpeaaDoor
open Go.RowKit
open Seal
open Bson (Val)
/-- The blocks of what is answered: those of what was handed in, and new ones. -/
def MineV (Q : Nat → Prop) (w : World) : Nat → Prop := fun g => (Q g ∧ g < w.heap.size) ∨ w.heap.size ≤ g
def RAllPost (w : World) (Q : Nat → Prop) (H : Nat) (zs : List Val) (e : Ending) (w' : World) : Prop := ∃ v' xs', e = .returned v' ∧ Acc w' w.heap.size v' (MineV Q w) H zs xs' ∧ Below w.heap.size w w'
def RAllAt (H h : Nat) (p : List ByteArray) (pa : Option Addr) (pn pc : Nat) (fnA : Val → List Val) : Prop :=
  ∀ (Q : Nat → Prop) (x : Val) (u : Value) (w : World), VIn w Q h x u → StrsIn w pa p → (fnA x).length ≤ 1353245080339 → Calls Tryd.prog 19 #[u, .slice pa pn pc] w (RAllPost w Q H (fnA x))
theorem Acc.mono {w : World} {base base' : Nat} {v : Value} {QA QB : Nat → Prop} {H : Nat} {ys : List Val} {xs : List Value} (ha : Acc w base v QA H ys xs) (hb : base' ≤ base) (hq : ∀ g, QA g → QB g) : Acc w base' v QB H ys xs := by
  refine ⟨?_, fun i hi => ?_⟩
  · obtain ⟨h1, h2 | ⟨g, cap, cur, e, hg, h3⟩⟩ := ha.own
    · exact ⟨h1, .inl h2⟩
    · exact ⟨h1, .inr ⟨g, cap, cur, e, Nat.le_trans hb hg, h3⟩⟩
  · obtain ⟨c0, c1, c2, c3, c4, c5, h0, h1, h2, h3, h4, h5, hV⟩ := ha.at' i hi
    exact ⟨c0, c1, c2, c3, c4, c5, h0, h1, h2, h3, h4, h5, hV.kept (Kept.of_below (Below.refl _ _)) (fun g hg => ⟨hq g hg.1, hg.2⟩)⟩
theorem own_inj {g o n c k : Nat} (h : (Value.slice (some ⟨g, o, none⟩) n c).ownBlock = some k) : g = k := Option.some.inj h
/-- A row of one value, just laid. -/
theorem Acc.lit {w : World} {base : Nat} {QA : Nat → Prop} {H : Nat} {x : Val} {k n : Int} {s : ByteArray} {ba fa la : Option Addr} {bn bc fn fc ln lc : Nat} (hb : base ≤ w.heap.size) (hv : VIn w (fun g => QA g ∧ g < w.heap.size) H x (.agg #[.int .i64 k, .int .i64 n, .string s, .slice ba bn bc, .slice fa fn fc, .slice la ln lc])) :
    Acc (w.alloc (.cells #[.int .i64 k, .int .i64 n, .string s, .slice ba bn bc, .slice fa fn fc, .slice la ln lc] 26)) base (.slice (some ⟨w.heap.size, 0, none⟩) 1 1) QA H [x] [.int .i64 k, .int .i64 n, .string s, .slice ba bn bc, .slice fa fn fc, .slice la ln lc] := by
  refine ⟨World.ownsRow_lit w _ 1 hb (by decide) rfl, fun i hi => ?_⟩
  obtain rfl : i = 0 := by simp at hi; omega
  exact ⟨_, _, _, _, _, _, rfl, rfl, rfl, rfl, rfl, rfl, (VIn.keep ((Below.refl _ w).alloc (Nat.le_refl _) _) hv).kept (Kept.of_below (Below.refl _ _)) (fun g hg => ⟨hg.1, fun e => absurd (own_inj e) (by omega)⟩)⟩
set_option maxRecDepth 100000 in
set_option maxHeartbeats 1000000 in
theorem rall_empty (H h : Nat) (hh : h + 1 ≤ H) (pa : Option Addr) (pc m : Nat) : RAllAt H (h + 1) [] pa 0 pc (fun x => Bson.all m x []) := by
  intro Q x u w hv hp hN
  simp only [Bson.all_nil] at hN ⊢
  obtain ⟨i0, hi, hz0, hz1, hz2⟩ := info_parts infoV6
  obtain ⟨xk, xn, xs0, ba, fa, la, bn, bc, fn, fc, ln, lc, rfl, hxk, hrest⟩ := hv.letters
  clear hrest
  have hlen : (Bson.itself x).length = 1 + (if x.kind = 7 then x.l.length else 0) := by
    unfold Bson.itself
    split <;> simp <;> omega
  rw [hlen] at hN
  have HN := Lib.hid hN
  have HXK := Lib.hid hxk
  have HV1 : Hid (VIn (w.alloc (.cells #[.int .i64 xk, .int .i64 xn, .string xs0, .slice ba bn bc, .slice fa fn fc, .slice la ln lc] 26)) (fun g => (MineV Q w g ∧ g < w.heap.size) ∧ g < (w.alloc (.cells #[.int .i64 xk, .int .i64 xn, .string xs0, .slice ba bn bc, .slice fa fn fc, .slice la ln lc] 26)).heap.size) (h + 1) x (.agg #[.int .i64 xk, .int .i64 xn, .string xs0, .slice ba bn bc, .slice fa fn fc, .slice la ln lc])) := (VIn.keep ((Below.refl _ w).alloc (Nat.le_refl _) _) hv.lt).kept (Kept.of_below (Below.refl _ _)) (fun g hg => ⟨⟨.inl hg, hg.2⟩, by simp; omega⟩)
  have HA : Hid (Acc ((w.alloc (.cells #[.int .i64 xk, .int .i64 xn, .string xs0, .slice ba bn bc, .slice fa fn fc, .slice la ln lc] 26)).alloc (.cells #[.int .i64 xk, .int .i64 xn, .string xs0, .slice ba bn bc, .slice fa fn fc, .slice la ln lc] 26)) w.heap.size (.slice (some ⟨w.heap.size + 1, 0, none⟩) 1 1) (MineV Q w) H [x] [.int .i64 xk, .int .i64 xn, .string xs0, .slice ba bn bc, .slice fa fn fc, .slice la ln lc]) := by
    have e : (w.alloc (.cells #[.int .i64 xk, .int .i64 xn, .string xs0, .slice ba bn bc, .slice fa fn fc, .slice la ln lc] 26)).heap.size = w.heap.size + 1 := by simp
    have := Acc.lit (w := w.alloc (.cells #[.int .i64 xk, .int .i64 xn, .string xs0, .slice ba bn bc, .slice fa fn fc, .slice la ln lc] 26)) (base := w.heap.size) (QA := MineV Q w) (H := H) (x := x) (by simp) ((HV1.out.kept (Kept.of_below (Below.refl _ _)) (fun g hg => ⟨hg.1.1, hg.2⟩)).up hh)
    rw [e] at this; exact this
  have HB : Hid (Below w.heap.size w ((w.alloc (.cells #[.int .i64 xk, .int .i64 xn, .string xs0, .slice ba bn bc, .slice fa fn fc, .slice la ln lc] 26)).alloc (.cells #[.int .i64 xk, .int .i64 xn, .string xs0, .slice ba bn bc, .slice fa fn fc, .slice la ln lc] 26))) := ((Below.refl _ w).alloc (Nat.le_refl _) _).alloc (by simp) _
  have HV2 : Hid (VIn ((w.alloc (.cells #[.int .i64 xk, .int .i64 xn, .string xs0, .slice ba bn bc, .slice fa fn fc, .slice la ln lc] 26)).alloc (.cells #[.int .i64 xk, .int .i64 xn, .string xs0, .slice ba bn bc, .slice fa fn fc, .slice la ln lc] 26)) (fun g => MineV Q w g ∧ (Value.slice (some ⟨w.heap.size + 1, 0, none⟩) 1 1).ownBlock ≠ some g) (h + 1) x (.agg #[.int .i64 xk, .int .i64 xn, .string xs0, .slice ba bn bc, .slice fa fn fc, .slice la ln lc])) := (VIn.keep ((Below.refl _ _).alloc (Nat.le_refl _) _) HV1.out).kept (Kept.of_below (Below.refl _ _)) (fun g hg => ⟨hg.1.1, fun e => absurd (own_inj e) (by omega)⟩)
  clear hv hp hN hlen hxk HV1
  go_enter Tryd.func19, Tryd.ntmps19
  by_cases h7 : xk = 7
  · subst h7
    obtain ⟨hln, hI5⟩ := HV2.out.items
    obtain ⟨news, hn1, hn2, hn3, hn4⟩ := items_src' hI5 (show h ≤ H by omega)
    have hNl : 1 + ln ≤ 1353245080339 := by have := HN.out; rw [if_pos HXK.out.symm] at this; omega
    have hit : Bson.itself x = [x] ++ x.l := by unfold Bson.itself; rw [if_pos HXK.out.symm]; rfl
    have HIT := Lib.hid hit
    rw [← hln] at hn1 hn2
    have HN1 := Lib.hid hn1; have HN2 := Lib.hid hn2; have HN3 := Lib.hid hn3; have HN4 := Lib.hid hn4; have HLN := Lib.hid hln
    have HO5 := Lib.hid HA.out.own
    have HS5 : Hid (w.heap.size ≤ ((w.alloc (.cells #[.int .i64 7, .int .i64 xn, .string xs0, .slice ba bn bc, .slice fa fn fc, .slice la ln lc] 26)).alloc (.cells #[.int .i64 7, .int .i64 xn, .string xs0, .slice ba bn bc, .slice fa fn fc, .slice la ln lc] 26)).heap.size) := by show _ ≤ _; simp; omega
    clear hn1 hn2 hn3 hn4 hln hI5 hit
    go_wp2_with (at_builtin; refine wpList_append_any rfl (.tmp 17) (.tmp 19) 24 rfl w.heap.size 26 i0 (.agg #[.int .i64 0, .int .i64 0, .string ⟨#[]⟩, .slice none 0 0, .slice none 0 0, .slice none 0 0]) 6 104 Tryd.underlying24 hi hz0 hz1 hz2 rfl (.slice (some ⟨w.heap.size + 1, 0, none⟩) 1 1) 1 _ rfl HO5.out la ln lc news rfl HN1.out (by decide) HN2.out HN3.out (by unfold maxLen; omega) (by omega) HS5.out ?_)
    intro v6 w6 hown6 hw6
    have HA6 : Hid (Acc w6 w.heap.size v6 (MineV Q w) H ([x] ++ x.l) ([.int .i64 7, .int .i64 xn, .string xs0, .slice ba bn bc, .slice fa fn fc, .slice la ln lc] ++ news)) := HA.out.append hw6 (by rw [← HLN.out]; exact hown6) HN4.out (by rw [← HLN.out]; exact HN1.out)
    have HB6 : Hid (Below w.heap.size w w6) := HB.out.grown hw6.1 HS5.out (fun j hj => by have := own_inj hj; omega)
    clear hown6 hw6
    go_wp2_with fail
    go_ret
    exact ⟨v6, _, rfl, by rw [HIT.out]; exact HA6.out, HB6.out⟩
  · have hkb : (xk == 7) = false := by simpa using h7
    have hit : Bson.itself x = [x] := by unfold Bson.itself; rw [if_neg (by rw [← HXK.out]; exact h7)]
    have HIT := Lib.hid hit
    clear hit h7
    go_wp2_with fail
    go_ret
    exact ⟨_, _, rfl, by rw [HIT.out]; exact HA.out, HB.out⟩
set_option maxRecDepth 100000 in
set_option maxHeartbeats 1000000 in
theorem rall_else (H h : Nat) (hH : 1 ≤ H) (p : List ByteArray) (pa : Option Addr) (pn pc m : Nat) (Q : Nat → Prop) (x : Val) (u : Value) (w : World) (hp0 : p ≠ []) (hpn : p.length = pn) (h6 : x.kind ≠ 6) (h7 : x.kind ≠ 7) (hv : VIn w Q (h + 1) x u) :
    Calls Tryd.prog 19 #[u, .slice pa pn pc] w (RAllPost w Q H (Bson.all m x p)) := by
  obtain ⟨xk, xn, xs0, ba, fa, la, bn, bc, fn, fc, ln, lc, rfl, hxk, hrest⟩ := hv.letters
  clear hrest
  have hpos : 0 < pn := by rw [← hpn]; exact List.length_pos_iff.2 hp0
  have hpe : ((pn : Int) == 0) = false := by simp; omega
  have k6 : (xk == 6) = false := by rw [hxk]; simpa using h6
  have k7 : (xk == 7) = false := by rw [hxk]; simpa using h7
  have hres : Bson.all m x p = [Bson.zero] := by
    cases p with
    | nil => exact absurd rfl hp0
    | cons a r => exact Bson.all_other m x a r h6 h7
  rw [hres]
  have HA : Hid (Acc ((w.alloc (.cells #[.int .i64 xk, .int .i64 xn, .string xs0, .slice ba bn bc, .slice fa fn fc, .slice la ln lc] 26)).alloc (.cells #[.int .i64 0, .int .i64 0, .string ⟨#[]⟩, .slice none 0 0, .slice none 0 0, .slice none 0 0] 26)) w.heap.size (.slice (some ⟨w.heap.size + 1, 0, none⟩) 1 1) (MineV Q w) H [Bson.zero] [.int .i64 0, .int .i64 0, .string ⟨#[]⟩, .slice none 0 0, .slice none 0 0, .slice none 0 0]) := by
    have e : (w.alloc (.cells #[.int .i64 xk, .int .i64 xn, .string xs0, .slice ba bn bc, .slice fa fn fc, .slice la ln lc] 26)).heap.size = w.heap.size + 1 := by simp
    have := Acc.lit (w := w.alloc (.cells #[.int .i64 xk, .int .i64 xn, .string xs0, .slice ba bn bc, .slice fa fn fc, .slice la ln lc] 26)) (base := w.heap.size) (QA := MineV Q w) (H := H) (x := Bson.zero) (by simp) ((zero_in _ _).up hH)
    rw [e] at this; exact this
  have HB : Hid (Below w.heap.size w ((w.alloc (.cells #[.int .i64 xk, .int .i64 xn, .string xs0, .slice ba bn bc, .slice fa fn fc, .slice la ln lc] 26)).alloc (.cells #[.int .i64 0, .int .i64 0, .string ⟨#[]⟩, .slice none 0 0, .slice none 0 0, .slice none 0 0] 26))) := ((Below.refl _ w).alloc (Nat.le_refl _) _).alloc (by simp) _
  clear hv hxk hres h6 h7 hpn hp0
  go_enter Tryd.func19, Tryd.ntmps19
  go_wp2_with fail
  go_ret
  exact ⟨_, _, rfl, HA.out, HB.out⟩
set_option maxRecDepth 100000 in
set_option maxHeartbeats 2000000 in
theorem rall_items (H h : Nat) (hH : 1 ≤ H) (p : List ByteArray) (pa : Option Addr) (pn pc m : Nat) (IH0 : RAllAt H h p pa pn pc (fun y => Bson.all m y p)) (Q : Nat → Prop) (x : Val) (u : Value) (w : World) (hp0 : p ≠ []) (hpn : p.length = pn) (h7 : x.kind = 7)
    (hv : VIn w Q (h + 1) x u) (hp : StrsIn w pa p) (hN : (Bson.all (m + 1) x p).length ≤ 1353245080339) :
    Calls Tryd.prog 19 #[u, .slice pa pn pc] w (RAllPost w Q H (Bson.all (m + 1) x p)) := by
  obtain ⟨i0, hi, hz0, hz1, hz2⟩ := info_parts infoV6
  obtain ⟨xk, xn, xs0, ba, fa, la, bn, bc, fn, fc, ln, lc, rfl, hxk, hxn, hxs, hbn, hfn, hln, hL, hF, hI⟩ := hv.lt.letters
  have hpos : 0 < pn := by rw [← hpn]; exact List.length_pos_iff.2 hp0
  have hpe : ((pn : Int) == 0) = false := by simp; omega
  obtain rfl : xk = 7 := by rw [hxk, h7]
  obtain ⟨f, hf⟩ : ∃ f : Val → List Val, f = fun y => Bson.all m y p := ⟨_, rfl⟩
  have hne : ∀ y, f y ≠ [] := fun y => by rw [hf]; exact Bson.all_ne m y p
  have hres : Bson.all (m + 1) x p = ofItems f x.l := by
    rw [hf]
    cases p with
    | nil => exact absurd rfl hp0
    | cons a r =>
      unfold ofItems flat docsOf
      split
      · rename_i hh; exact Bson.all_none m x a r h7 (by simpa using hh)
      · rename_i hh; exact Bson.all_list m x a r h7 (by simpa using hh)
  rw [hres] at hN ⊢
  rw [← hf] at IH0
  have HFB : Hid (docsOf x.l ≠ [] → (flat f x.l).length ≤ 1353245080339) := fun hd => by
    have e : ofItems f x.l = flat f x.l := by unfold ofItems; rw [if_neg (by simpa using hd)]
    rw [e] at hN; exact hN
  have hll := hL.l
  rw [← hln] at hll
  obtain ⟨cs, hcs⟩ : ∃ cs : Array Value, cs = #[.int .i64 7, .int .i64 xn, .string xs0, .slice ba bn bc, .slice fa fn fc, .slice la ln lc] := ⟨_, rfl⟩
  have HX0 : Hid (Boxed w cs 26 (w.alloc (.cells #[.int .i64 7, .int .i64 xn, .string xs0, .slice ba bn bc, .slice fa fn fc, .slice la ln lc] 26))) := by rw [hcs]; exact Boxed.refl w _ _
  have HCS : Hid (cs[5]? = some (Value.slice la ln lc)) := by rw [hcs]; rfl
  clear hcs
  have IH := Lib.hid IH0; have HI := Lib.hid hI; have HP := Lib.hid hp; have HN := Lib.hid hln; have HNE := Lib.hid hne
  clear IH0 hI hp hln hN hne hf hres hv hxk hxn hxs hbn hfn hL hF hpn hp0 h7
  go_enter Tryd.func19, Tryd.ntmps19
  go_wp2_with fail
  go_loopw [7, 8] (fun vv i wr => ∃ (k : Nat) (v' : Value) (xs' : List Value), k ≤ ln ∧ i = .int .i64 k ∧ v' = vv ∧ Hid (Acc wr w.heap.size v' (MineV Q w) H (flat f (x.l.take k)) xs' ∧ v'.ownBlock ≠ some w.heap.size) ∧ Hid (Boxed w cs 26 wr)) (fun _ i _ => ln - (intOf i).toNat)
  case atStart => exact ⟨0, _, [], Nat.zero_le _, rfl, rfl, ⟨Acc.nil _ _ _ _, nofun⟩, HX0⟩
  case round =>
    obtain ⟨k, v', xs', hk, rfl, rfl, HA, HX⟩ := hrel
    obtain ⟨a1, c1, hv1⟩ : ∃ a c, v' = .slice a (flat f (x.l.take k)).length c := owns_shape HA.out.1.own
    obtain ⟨gn, hgn⟩ : ∃ n, n = (flat f (x.l.take k)).length := ⟨_, rfl⟩
    rw [← hgn] at hv1
    subst hv1
    have HGN := Lib.hid hgn
    clear hgn
    have b5 := (HX.out.cell 5).trans HCS.out
    by_cases hlt : k < ln
    · obtain ⟨g, o, hla, hq, hall⟩ := HI.out.resolve_left (fun e => by have := HN.out; rw [e] at this; simp at this; omega)
      obtain ⟨u', hsix, hV⟩ := hall k (by have := HN.out; omega)
      subst hla
      obtain ⟨ka, na, sa, ba2, fa2, ld, bl, bc2, fl, fc2, ll, lz, rfl⟩ := hV.shape
      obtain ⟨y, hy⟩ : ∃ y, y = x.l[k]'(by have := HN.out; omega) := ⟨_, rfl⟩
      rw [← hy] at hV
      have hka : ka = y.kind := hV.kind
      have HV := Lib.hid (VIn.keep HX.out.below hV)
      obtain ⟨s0, s1, s2, s3, s4, s5⟩ := (hsix.keep HX.out.below).cells
      have HPw := Lib.hid (HP.out.keep HX.out.below)
      have HKA := Lib.hid hka
      have HY := Lib.hid hy
      clear hall hsix hV hy hq hka
      by_cases h6 : ka = 6
      · subst h6
        have hfl := flat_yes f x.l k (by have := HN.out; omega) (by rw [← HY.out]; exact HKA.out.symm)
        rw [← HY.out] at hfl
        have hdn : docsOf x.l ≠ [] := fun e => by
          have hm : y ∈ docsOf x.l := List.mem_filter.2 ⟨by rw [HY.out]; exact List.getElem_mem _, by simpa using HKA.out.symm⟩
          rw [e] at hm; simp at hm
        have hbd : gn + (f y).length ≤ 1353245080339 := by
          have h1 := HFB.out hdn
          have h2 := flat_le f x.l (k + 1)
          rw [hfl, List.length_append] at h2
          rw [HGN.out]; omega
        obtain ⟨fy, hfy⟩ : ∃ n, n = (f y).length := ⟨_, rfl⟩
        have HFY := Lib.hid hfy
        rw [← hfy] at hbd
        have CI := Lib.hid (IH.out _ y _ wr HV.out HPw.out (by rw [← hfy]; omega))
        have HFL := Lib.hid hfl
        clear hfl hdn hfy
        go_wp2_with fail
        refine CI.out.mono ?_
        rintro e w2 ⟨v2, xs2, rfl, hA2, hB2⟩
        have hwr := HX.out.size
        have HX2 := Lib.hid (HX.out.step hB2)
        have hA3 : Acc w2 w.heap.size (.slice a1 gn c1) (MineV Q w) H (flat f (x.l.take k)) xs' := HA.out.1.keep hB2
        obtain ⟨a2, c2, hv2, _, hit2⟩ := hA2.items (Q' := fun g => MineV Q w g ∧ (Value.slice a1 gn c1).ownBlock ≠ some g) (fun g hg => by
          rcases hg with ⟨⟨hg1, hg2⟩, hg3⟩ | hg
          · exact ⟨.inl ⟨hg1, hg2⟩, fun e => by have := owns_block HA.out.1.own e; omega⟩
          · exact ⟨.inr (by omega), fun e => by have := owns_block HA.out.1.own e; omega⟩) (fun g hg _ => ⟨.inr (by omega), fun e => by have := owns_block HA.out.1.own e; omega⟩)
        subst hv2
        obtain ⟨news, hn1, hn2, hn3, hn4⟩ := items_src' hit2 (show H ≤ H from Nat.le_refl _)
        rw [← HFY.out] at hn1 hn2 ⊢
        have HN1 := Lib.hid hn1; have HN2 := Lib.hid hn2; have HN3 := Lib.hid hn3; have HN4 := Lib.hid hn4
        have HA3 := Lib.hid hA3
        have HO3 : Hid (w2.ownsRow w.heap.size 26 6 (.slice a1 gn c1) gn xs') := by have := hA3.own; rw [← HGN.out] at this; exact this
        have HS3 : Hid (w.heap.size ≤ w2.heap.size) := Nat.le_trans (by omega) hB2.size
        have HOB := Lib.hid HA.out.2
        clear hA2 hB2 hA3 hit2 hn1 hn2 hn3 hn4 HA HX CI s0 s1 s2 s3 s4 s5 b5 HV HPw
        go_wp2_with (at_builtin; refine wpList_append_any rfl (.tmp 56) (.tmp 63) 24 rfl w.heap.size 26 i0 (.agg #[.int .i64 0, .int .i64 0, .string ⟨#[]⟩, .slice none 0 0, .slice none 0 0, .slice none 0 0]) 6 104 Tryd.underlying24 hi hz0 hz1 hz2 rfl (.slice a1 gn c1) gn _ rfl HO3.out a2 fy c2 news rfl HN1.out (by decide) HN2.out HN3.out (by unfold maxLen; omega) (by omega) HS3.out ?_)
        intro v6 w6 hown6 hw6
        have hA6 : Acc w6 w.heap.size v6 (MineV Q w) H (flat f (x.l.take (k + 1))) (xs' ++ news) := by
          rw [HFL.out]; exact HA3.out.append hw6 (by rw [← HGN.out, ← HFY.out]; exact hown6) HN4.out (by rw [← HFY.out]; exact HN1.out)
        have hsz2 := HX2.out.size
        have HA6 : Hid (Acc w6 w.heap.size v6 (MineV Q w) H (flat f (x.l.take (k + 1))) (xs' ++ news) ∧ v6.ownBlock ≠ some w.heap.size) := ⟨hA6, by
          rcases hw6.2 with h | ⟨g, h, hg⟩
          · rw [h]; exact HOB.out
          · rw [h]; intro e; have := Option.some.inj e; omega⟩
        have HX6 : Hid (Boxed w cs 26 w6) := Below.trans HX2.out ⟨hw6.1.os, hw6.1.tape, hw6.1.output, hw6.1.size, fun b hb => hw6.1.block b (by omega) (fun e => by
          have hb1 := owns_block HO3.out e.symm
          have hb2 := HOB.out
          rw [← e] at hb2
          have : b ≠ w.heap.size := fun e2 => hb2 (by rw [e2])
          omega)⟩
        clear hA6 hown6 hw6 HO3 HA3 HN1 HN2 HN3 HN4 HX2 HOB HS3
        go_wp2_with fail
        go_roundw
        case rel => exact ⟨k + 1, v6, _, by omega, by go_num, rfl, HA6, HX6⟩
        case measure => simp [intOf]; omega
      · have hkb : (ka == 6) = false := by simpa using h6
        have hfl := flat_no f x.l k (by have := HN.out; omega) (by rw [← HY.out, ← HKA.out]; exact h6)
        have HFL := Lib.hid hfl
        clear hfl h6
        go_wp2_with fail
        go_roundw
        case rel => exact ⟨k + 1, _, xs', by omega, by go_num, rfl, by rw [HFL.out]; exact HA.out, HX⟩
        case measure => simp [intOf]; omega
    · have hkk : k = ln := by omega
      subst hkk
      have htk : x.l.take k = x.l := List.take_of_length_le (by rw [HN.out]; exact Nat.le_refl _)
      have hfin := HA.out.1
      have hgn := HGN.out
      rw [htk] at hfin hgn
      by_cases hd : docsOf x.l = []
      · have hfl : flat f x.l = [] := by unfold flat; rw [hd]; rfl
        have hof : ofItems f x.l = [Bson.zero] := by unfold ofItems; rw [hd]; rfl
        obtain rfl : gn = 0 := by rw [hgn, hfl]; rfl
        have HOF := Lib.hid hof
        have HB := HX.out.below
        have HA1 : Hid (Acc (wr.alloc (.cells #[.int .i64 0, .int .i64 0, .string ⟨#[]⟩, .slice none 0 0, .slice none 0 0, .slice none 0 0] 26)) w.heap.size (.slice (some ⟨wr.heap.size, 0, none⟩) 1 1) (MineV Q w) H [Bson.zero] [.int .i64 0, .int .i64 0, .string ⟨#[]⟩, .slice none 0 0, .slice none 0 0, .slice none 0 0]) := Acc.lit HB.size ((zero_in _ _).up hH)
        have HB1 : Hid (Below w.heap.size w (wr.alloc (.cells #[.int .i64 0, .int .i64 0, .string ⟨#[]⟩, .slice none 0 0, .slice none 0 0, .slice none 0 0] 26))) := HB.alloc HB.size _
        clear hfin htk hfl hof HA hd hgn HGN
        go_wp2_with fail
        go_ret
        exact ⟨_, _, rfl, by rw [HOF.out]; exact HA1.out, HB1.out⟩
      · have hof : ofItems f x.l = flat f x.l := by unfold ofItems; rw [if_neg (by simpa using hd)]
        rw [← hof] at hfin
        have hgp : (0 : Int) < (gn : Int) := by
          have := flat_ne f HNE.out x.l hd
          rw [hgn]; omega
        have HA5 := Lib.hid hfin
        have HB5 := Lib.hid HX.out.below
        clear hfin htk hof HA hd hgn HGN
        go_wp2_with fail
        go_ret
        exact ⟨_, _, rfl, HA5.out, HB5.out⟩
set_option maxRecDepth 100000 in
set_option maxHeartbeats 600000 in
theorem rall_doc (H h : Nat) (hH : h + 1 ≤ H) (a : ByteArray) (r : List ByteArray) (g o : Nat) (pn pc : Nat) (m : Nat) (IH0 : RAllAt H (h + 1) r (some ⟨g, o + 1, none⟩) (pn - 1) (pc - 1) (fun y => Bson.all m y r)) (Q : Nat → Prop) (x : Val) (u : Value) (w : World) (hpn : (a :: r).length = pn) (hpc : pn ≤ pc) (hc1 : ¬ pc = 1) (h6 : x.kind = 6)
    (hv : VIn w Q (h + 1) x u) (hp : ∀ i (hi : i < (a :: r).length), w.cell? ⟨g, o + i, none⟩ = some (.string (a :: r)[i])) (hN : (Bson.all (m + 1) x (a :: r)).length ≤ 1353245080339) :
    Calls Tryd.prog 19 #[u, .slice (some ⟨g, o, none⟩) pn pc] w (RAllPost w Q H (Bson.all (m + 1) x (a :: r))) := by
  obtain ⟨xk, xn, xs0, ba, fa, la, bn, bc, fn, fc, ln, lc, rfl, hxk, hrest⟩ := hv.letters
  clear hrest
  have hpos : 0 < pn := by rw [← hpn]; simp
  have hpe : ((pn : Int) == 0) = false := by simp; omega
  obtain rfl : xk = 6 := by rw [hxk, h6]
  have HV : Hid (VIn (w.alloc (.cells #[.int .i64 6, .int .i64 xn, .string xs0, .slice ba bn bc, .slice fa fn fc, .slice la ln lc] 26)) (fun g => Q g ∧ g < w.heap.size) (h + 1) x (.agg #[.int .i64 6, .int .i64 xn, .string xs0, .slice ba bn bc, .slice fa fn fc, .slice la ln lc])) := VIn.keep ((Below.refl _ w).alloc (Nat.le_refl _) _) hv.lt
  have HB1 : Hid (Below w.heap.size w (w.alloc (.cells #[.int .i64 6, .int .i64 xn, .string xs0, .slice ba bn bc, .slice fa fn fc, .slice la ln lc] 26))) := (Below.refl _ w).alloc (Nat.le_refl _) _
  have hp0 : w.cell? ⟨g, o, none⟩ = some (.string a) := by have := hp 0 (by simp); rw [Nat.add_zero] at this; exact this
  have HPR : Hid (StrsIn w (some ⟨g, o + 1, none⟩) r) := .inr ⟨g, o + 1, rfl, fun i hi => by have := hp (i + 1) (by simpa using hi); rw [show o + (i + 1) = o + 1 + i by omega] at this; exact this⟩
  have HMISS : Hid ((Bson.fieldIn x.f a).kind = 0 → Bson.all (m + 1) x (a :: r) = [Bson.zero]) := fun e => Bson.all_missing m x a r h6 e
  have HTHERE : Hid ((Bson.fieldIn x.f a).kind ≠ 0 → Bson.all (m + 1) x (a :: r) = Bson.all m (Bson.fieldIn x.f a) r) := fun e => Bson.all_doc m x a r h6 e
  have HNB := Lib.hid hN
  have H6 := Lib.hid h6
  have hf : (w.alloc (.cells #[.int .i64 6, .int .i64 xn, .string xs0, .slice ba bn bc, .slice fa fn fc, .slice la ln lc] 26)).cell? ⟨w.heap.size, 0, none⟩ = some (.int .i64 6) ∧ (w.alloc (.cells #[.int .i64 6, .int .i64 xn, .string xs0, .slice ba bn bc, .slice fa fn fc, .slice la ln lc] 26)).cell? ⟨w.heap.size, 1, none⟩ = some (.int .i64 xn) ∧ (w.alloc (.cells #[.int .i64 6, .int .i64 xn, .string xs0, .slice ba bn bc, .slice fa fn fc, .slice la ln lc] 26)).cell? ⟨w.heap.size, 2, none⟩ = some (.string xs0) ∧ (w.alloc (.cells #[.int .i64 6, .int .i64 xn, .string xs0, .slice ba bn bc, .slice fa fn fc, .slice la ln lc] 26)).cell? ⟨w.heap.size, 3, none⟩ = some (.slice ba bn bc) ∧ (w.alloc (.cells #[.int .i64 6, .int .i64 xn, .string xs0, .slice ba bn bc, .slice fa fn fc, .slice la ln lc] 26)).cell? ⟨w.heap.size, 4, none⟩ = some (.slice fa fn fc) ∧ (w.alloc (.cells #[.int .i64 6, .int .i64 xn, .string xs0, .slice ba bn bc, .slice fa fn fc, .slice la ln lc] 26)).cell? ⟨w.heap.size, 5, none⟩ = some (.slice la ln lc) ∧ (w.alloc (.cells #[.int .i64 6, .int .i64 xn, .string xs0, .slice ba bn bc, .slice fa fn fc, .slice la ln lc] 26)).cell? ⟨g, o, none⟩ = some (.string a) := by
    have e := heap_alloc_new w (.cells #[.int .i64 6, .int .i64 xn, .string xs0, .slice ba bn bc, .slice fa fn fc, .slice la ln lc] 26)
    exact ⟨(cell_of_row _ _ 0 _ _ _ e).trans rfl, (cell_of_row _ _ 1 _ _ _ e).trans rfl, (cell_of_row _ _ 2 _ _ _ e).trans rfl, (cell_of_row _ _ 3 _ _ _ e).trans rfl, (cell_of_row _ _ 4 _ _ _ e).trans rfl, (cell_of_row _ _ 5 _ _ _ e).trans rfl, cell_keep HB1.out hp0⟩
  have HF0 := Lib.hid hf
  have HSZ0 : Hid (w.heap.size < (w.alloc (.cells #[.int .i64 6, .int .i64 xn, .string xs0, .slice ba bn bc, .slice fa fn fc, .slice la ln lc] 26)).heap.size) := by show _ < _; simp
  have HG0 : Hid (g < (w.alloc (.cells #[.int .i64 6, .int .i64 xn, .string xs0, .slice ba bn bc, .slice fa fn fc, .slice la ln lc] 26)).heap.size) := by have := World.block_lt_of_cell? w _ hp0; show _ < _; simp at this ⊢; omega
  have IH := Lib.hid IH0
  have hpl : r.length + 1 = pn := by simpa using hpn
  have b1 : (1 : Int) ≤ (pn : Int) := by omega
  have b2 : (pn : Int) ≤ (pc : Int) := by omega
  clear hv hp hp0 hN hxk hpn h6 IH0
  generalize hW0 : w.alloc (.cells #[.int .i64 6, .int .i64 xn, .string xs0, .slice ba bn bc, .slice fa fn fc, .slice la ln lc] 26) = W0 at *
  go_enter Tryd.func19, Tryd.ntmps19
  go_wp2_with fail
  clear hW0
  go_region_held3 (fun W => W.cell? ⟨w.heap.size, 0, none⟩ = some (.int .i64 6) ∧ W.cell? ⟨w.heap.size, 1, none⟩ = some (.int .i64 xn) ∧ W.cell? ⟨w.heap.size, 2, none⟩ = some (.string xs0) ∧ W.cell? ⟨w.heap.size, 3, none⟩ = some (.slice ba bn bc) ∧ W.cell? ⟨w.heap.size, 4, none⟩ = some (.slice fa fn fc) ∧ W.cell? ⟨w.heap.size, 5, none⟩ = some (.slice la ln lc) ∧ W.cell? ⟨g, o, none⟩ = some (.string a))
    (first | with_reducible exact hf | with_reducible exact hf2 | with_reducible exact hf3 | with_reducible exact hf4 | go_keep)
    ((first
      | (go_at_call 23; refine (refField_doc _ h x _ a W0.drew (VIn.keep ((Below.refl _ W0).drew) HV.out) H6.out).mono ?_; rintro e w1 ⟨v1, rfl, hv1, hb1⟩; have HB2 : Hid (Below W0.heap.size W0 w1) := (Below.refl _ W0).drew.trans hb1; obtain ⟨kd, nd, sd, bd, fd, ld, bm, bz, fm, fz, lm, lz, rfl⟩ := hv1.shape; have HV1 := Lib.hid hv1; have hf2 : w1.cell? ⟨w.heap.size, 0, none⟩ = some (.int .i64 6) ∧ w1.cell? ⟨w.heap.size, 1, none⟩ = some (.int .i64 xn) ∧ w1.cell? ⟨w.heap.size, 2, none⟩ = some (.string xs0) ∧ w1.cell? ⟨w.heap.size, 3, none⟩ = some (.slice ba bn bc) ∧ w1.cell? ⟨w.heap.size, 4, none⟩ = some (.slice fa fn fc) ∧ w1.cell? ⟨w.heap.size, 5, none⟩ = some (.slice la ln lc) ∧ w1.cell? ⟨g, o, none⟩ = some (.string a) := ⟨cell_keep HB2.out HF0.out.1, cell_keep HB2.out HF0.out.2.1, cell_keep HB2.out HF0.out.2.2.1, cell_keep HB2.out HF0.out.2.2.2.1, cell_keep HB2.out HF0.out.2.2.2.2.1, cell_keep HB2.out HF0.out.2.2.2.2.2.1, cell_keep HB2.out HF0.out.2.2.2.2.2.2⟩; clear hv1 hb1)
      | (go_at_call 23; refine (refField_doc _ h x _ a (W0.alloc (.cells #[.int .i64 0, .int .i64 0, .string ⟨#[]⟩, .slice none 0 0, .slice none 0 0, .slice none 0 0] 26)).drew (VIn.keep (((Below.refl _ W0).alloc (Nat.le_refl _) (.cells #[.int .i64 0, .int .i64 0, .string ⟨#[]⟩, .slice none 0 0, .slice none 0 0, .slice none 0 0] 26)).drew) HV.out) H6.out).mono ?_; rintro e w1 ⟨v1, rfl, hv1, hb1⟩; have HB2 : Hid (Below W0.heap.size W0 w1) := (((Below.refl _ W0).alloc (Nat.le_refl _) (.cells #[.int .i64 0, .int .i64 0, .string ⟨#[]⟩, .slice none 0 0, .slice none 0 0, .slice none 0 0] 26)).drew).trans (hb1.mono (by simp)); have hrow : w1.heap[W0.heap.size]? = some (.cells #[.int .i64 0, .int .i64 0, .string ⟨#[]⟩, .slice none 0 0, .slice none 0 0, .slice none 0 0] 26 (0, 0)) := (hb1.block _ (by simp)).trans (heap_alloc_new W0 _); have HROW := Lib.hid hrow; have z0 : w1.cell? ⟨W0.heap.size, 0, none⟩ = some (.int .i64 0) := (cell_of_row _ _ 0 _ _ _ hrow).trans rfl; have z1 : w1.cell? ⟨W0.heap.size, 1, none⟩ = some (.int .i64 0) := (cell_of_row _ _ 1 _ _ _ hrow).trans rfl; have z2 : w1.cell? ⟨W0.heap.size, 2, none⟩ = some (.string { data := #[] }) := (cell_of_row _ _ 2 _ _ _ hrow).trans rfl; have z3 : w1.cell? ⟨W0.heap.size, 3, none⟩ = some (.slice none 0 0) := (cell_of_row _ _ 3 _ _ _ hrow).trans rfl; have z4 : w1.cell? ⟨W0.heap.size, 4, none⟩ = some (.slice none 0 0) := (cell_of_row _ _ 4 _ _ _ hrow).trans rfl; have z5 : w1.cell? ⟨W0.heap.size, 5, none⟩ = some (.slice none 0 0) := (cell_of_row _ _ 5 _ _ _ hrow).trans rfl; have g0 : w1.frozen? ⟨W0.heap.size, 0, none⟩ = false := frozen_of_row _ _ 0 _ _ hrow; have g1 : w1.frozen? ⟨W0.heap.size, 1, none⟩ = false := frozen_of_row _ _ 1 _ _ hrow; have g2 : w1.frozen? ⟨W0.heap.size, 2, none⟩ = false := frozen_of_row _ _ 2 _ _ hrow; have g3 : w1.frozen? ⟨W0.heap.size, 3, none⟩ = false := frozen_of_row _ _ 3 _ _ hrow; have g4 : w1.frozen? ⟨W0.heap.size, 4, none⟩ = false := frozen_of_row _ _ 4 _ _ hrow; have g5 : w1.frozen? ⟨W0.heap.size, 5, none⟩ = false := frozen_of_row _ _ 5 _ _ hrow; clear hrow; obtain ⟨kd, nd, sd, bd, fd, ld, bm, bz, fm, fz, lm, lz, rfl⟩ := hv1.shape; have HV1 := Lib.hid hv1; have hf2 : w1.cell? ⟨w.heap.size, 0, none⟩ = some (.int .i64 6) ∧ w1.cell? ⟨w.heap.size, 1, none⟩ = some (.int .i64 xn) ∧ w1.cell? ⟨w.heap.size, 2, none⟩ = some (.string xs0) ∧ w1.cell? ⟨w.heap.size, 3, none⟩ = some (.slice ba bn bc) ∧ w1.cell? ⟨w.heap.size, 4, none⟩ = some (.slice fa fn fc) ∧ w1.cell? ⟨w.heap.size, 5, none⟩ = some (.slice la ln lc) ∧ w1.cell? ⟨g, o, none⟩ = some (.string a) := ⟨cell_keep HB2.out HF0.out.1, cell_keep HB2.out HF0.out.2.1, cell_keep HB2.out HF0.out.2.2.1, cell_keep HB2.out HF0.out.2.2.2.1, cell_keep HB2.out HF0.out.2.2.2.2.1, cell_keep HB2.out HF0.out.2.2.2.2.2.1, cell_keep HB2.out HF0.out.2.2.2.2.2.2⟩; clear hv1 hb1; have hf3 : ((((((w1.setCell ⟨W0.heap.size, 0, none⟩ (.int .i64 kd)).setCell ⟨W0.heap.size, 1, none⟩ (.int .i64 nd)).setCell ⟨W0.heap.size, 2, none⟩ (.string sd)).setCell ⟨W0.heap.size, 3, none⟩ (.slice bd bm bz)).setCell ⟨W0.heap.size, 4, none⟩ (.slice fd fm fz)).setCell ⟨W0.heap.size, 5, none⟩ (.slice ld lm lz)).cell? ⟨w.heap.size, 0, none⟩ = some (.int .i64 6) ∧ ((((((w1.setCell ⟨W0.heap.size, 0, none⟩ (.int .i64 kd)).setCell ⟨W0.heap.size, 1, none⟩ (.int .i64 nd)).setCell ⟨W0.heap.size, 2, none⟩ (.string sd)).setCell ⟨W0.heap.size, 3, none⟩ (.slice bd bm bz)).setCell ⟨W0.heap.size, 4, none⟩ (.slice fd fm fz)).setCell ⟨W0.heap.size, 5, none⟩ (.slice ld lm lz)).cell? ⟨w.heap.size, 1, none⟩ = some (.int .i64 xn) ∧ ((((((w1.setCell ⟨W0.heap.size, 0, none⟩ (.int .i64 kd)).setCell ⟨W0.heap.size, 1, none⟩ (.int .i64 nd)).setCell ⟨W0.heap.size, 2, none⟩ (.string sd)).setCell ⟨W0.heap.size, 3, none⟩ (.slice bd bm bz)).setCell ⟨W0.heap.size, 4, none⟩ (.slice fd fm fz)).setCell ⟨W0.heap.size, 5, none⟩ (.slice ld lm lz)).cell? ⟨w.heap.size, 2, none⟩ = some (.string xs0) ∧ ((((((w1.setCell ⟨W0.heap.size, 0, none⟩ (.int .i64 kd)).setCell ⟨W0.heap.size, 1, none⟩ (.int .i64 nd)).setCell ⟨W0.heap.size, 2, none⟩ (.string sd)).setCell ⟨W0.heap.size, 3, none⟩ (.slice bd bm bz)).setCell ⟨W0.heap.size, 4, none⟩ (.slice fd fm fz)).setCell ⟨W0.heap.size, 5, none⟩ (.slice ld lm lz)).cell? ⟨w.heap.size, 3, none⟩ = some (.slice ba bn bc) ∧ ((((((w1.setCell ⟨W0.heap.size, 0, none⟩ (.int .i64 kd)).setCell ⟨W0.heap.size, 1, none⟩ (.int .i64 nd)).setCell ⟨W0.heap.size, 2, none⟩ (.string sd)).setCell ⟨W0.heap.size, 3, none⟩ (.slice bd bm bz)).setCell ⟨W0.heap.size, 4, none⟩ (.slice fd fm fz)).setCell ⟨W0.heap.size, 5, none⟩ (.slice ld lm lz)).cell? ⟨w.heap.size, 4, none⟩ = some (.slice fa fn fc) ∧ ((((((w1.setCell ⟨W0.heap.size, 0, none⟩ (.int .i64 kd)).setCell ⟨W0.heap.size, 1, none⟩ (.int .i64 nd)).setCell ⟨W0.heap.size, 2, none⟩ (.string sd)).setCell ⟨W0.heap.size, 3, none⟩ (.slice bd bm bz)).setCell ⟨W0.heap.size, 4, none⟩ (.slice fd fm fz)).setCell ⟨W0.heap.size, 5, none⟩ (.slice ld lm lz)).cell? ⟨w.heap.size, 5, none⟩ = some (.slice la ln lc) ∧ ((((((w1.setCell ⟨W0.heap.size, 0, none⟩ (.int .i64 kd)).setCell ⟨W0.heap.size, 1, none⟩ (.int .i64 nd)).setCell ⟨W0.heap.size, 2, none⟩ (.string sd)).setCell ⟨W0.heap.size, 3, none⟩ (.slice bd bm bz)).setCell ⟨W0.heap.size, 4, none⟩ (.slice fd fm fz)).setCell ⟨W0.heap.size, 5, none⟩ (.slice ld lm lz)).cell? ⟨g, o, none⟩ = some (.string a) := after_put hf2 W0.heap.size (by have := HSZ0.out; omega) (by have := HG0.out; omega) [.int .i64 kd, .int .i64 nd, .string sd, .slice bd bm bz, .slice fd fm fz, .slice ld lm lz])))
  · clear hf hf2
    have HB3 : Hid (Below W0.heap.size W0 (w1.alloc (.cells #[.int .i64 kd, .int .i64 nd, .string sd, .slice bd bm bz, .slice fd fm fz, .slice ld lm lz] 26))) := HB2.out.alloc HB2.out.size _
    have hrow2 := heap_alloc_new w1 (.cells #[.int .i64 kd, .int .i64 nd, .string sd, .slice bd bm bz, .slice fd fm fz, .slice ld lm lz] 26)
    have HBX : Hid ((w1.alloc (.cells #[.int .i64 kd, .int .i64 nd, .string sd, .slice bd bm bz, .slice fd fm fz, .slice ld lm lz] 26)).cell? ⟨w1.heap.size, 0, none⟩ = some (.int .i64 kd) ∧ (w1.alloc (.cells #[.int .i64 kd, .int .i64 nd, .string sd, .slice bd bm bz, .slice fd fm fz, .slice ld lm lz] 26)).cell? ⟨w1.heap.size, 1, none⟩ = some (.int .i64 nd) ∧ (w1.alloc (.cells #[.int .i64 kd, .int .i64 nd, .string sd, .slice bd bm bz, .slice fd fm fz, .slice ld lm lz] 26)).cell? ⟨w1.heap.size, 2, none⟩ = some (.string sd) ∧ (w1.alloc (.cells #[.int .i64 kd, .int .i64 nd, .string sd, .slice bd bm bz, .slice fd fm fz, .slice ld lm lz] 26)).cell? ⟨w1.heap.size, 3, none⟩ = some (.slice bd bm bz) ∧ (w1.alloc (.cells #[.int .i64 kd, .int .i64 nd, .string sd, .slice bd bm bz, .slice fd fm fz, .slice ld lm lz] 26)).cell? ⟨w1.heap.size, 4, none⟩ = some (.slice fd fm fz) ∧ (w1.alloc (.cells #[.int .i64 kd, .int .i64 nd, .string sd, .slice bd bm bz, .slice fd fm fz, .slice ld lm lz] 26)).cell? ⟨w1.heap.size, 5, none⟩ = some (.slice ld lm lz)) := ⟨(cell_of_row _ _ 0 _ _ _ hrow2).trans rfl, (cell_of_row _ _ 1 _ _ _ hrow2).trans rfl, (cell_of_row _ _ 2 _ _ _ hrow2).trans rfl, (cell_of_row _ _ 3 _ _ _ hrow2).trans rfl, (cell_of_row _ _ 4 _ _ _ hrow2).trans rfl, (cell_of_row _ _ 5 _ _ _ hrow2).trans rfl⟩
    have HV3 : Hid (VIn (w1.alloc (.cells #[.int .i64 kd, .int .i64 nd, .string sd, .slice bd bm bz, .slice fd fm fz, .slice ld lm lz] 26)) (fun g => Q g ∧ g < w.heap.size) (h + 1) (Bson.fieldIn x.f a) (.agg #[.int .i64 kd, .int .i64 nd, .string sd, .slice bd bm bz, .slice fd fm fz, .slice ld lm lz])) := HV1.out.keep ((Below.refl _ w1).alloc (Nat.le_refl _) _)
    clear hrow2 HV1 HF0
    generalize hW2 : w1.alloc (.cells #[.int .i64 kd, .int .i64 nd, .string sd, .slice bd bm bz, .slice fd fm fz, .slice ld lm lz] 26) = W2 at *
    generalize hGG : w1.heap.size = G at *
    have HBW : Hid (Below w.heap.size w W2) := HB1.out.trans (HB3.out.mono (by have := HSZ0.out; omega))
    have HP3 := Lib.hid (HPR.out.keep HBW.out)
    obtain ⟨e0, e1, e2, e3, e4, e5⟩ := HBX.out
    have hkd : kd = (Bson.fieldIn x.f a).kind := HV3.out.kind
    have HKD := Lib.hid hkd
    clear hkd hW2 HV HB1 HPR HB2 HB3
    by_cases h0 : kd = 0
    · subst h0
      have hres := HMISS.out HKD.out.symm
      have HRES := Lib.hid hres
      have HA : Hid (Acc (W2.alloc (.cells #[.int .i64 0, .int .i64 0, .string ⟨#[]⟩, .slice none 0 0, .slice none 0 0, .slice none 0 0] 26)) w.heap.size (.slice (some ⟨W2.heap.size, 0, none⟩) 1 1) (MineV Q w) H [Bson.zero] [.int .i64 0, .int .i64 0, .string ⟨#[]⟩, .slice none 0 0, .slice none 0 0, .slice none 0 0]) := Acc.lit HBW.out.size ((zero_in _ _).up (by omega))
      have HB5 : Hid (Below w.heap.size w (W2.alloc (.cells #[.int .i64 0, .int .i64 0, .string ⟨#[]⟩, .slice none 0 0, .slice none 0 0, .slice none 0 0] 26))) := HBW.out.alloc HBW.out.size _
      clear hres HBW HP3 HV3 HNB HMISS HTHERE
      go_wp2_with fail
      go_ret
      exact ⟨_, _, rfl, by rw [HRES.out]; exact HA.out, HB5.out⟩
    · have hkb : (kd == 0) = false := by simpa using h0
      have hres := HTHERE.out (by rw [← HKD.out]; exact h0)
      have HRES := Lib.hid hres
      have HN2 : Hid ((Bson.all m (Bson.fieldIn x.f a) r).length ≤ 1353245080339) := by have := HNB.out; rw [hres] at this; exact this
      have hbx : W2.cell? ⟨G, 0, none⟩ = some (.int .i64 kd) ∧ W2.cell? ⟨G, 1, none⟩ = some (.int .i64 nd) ∧ W2.cell? ⟨G, 2, none⟩ = some (.string sd) ∧ W2.cell? ⟨G, 3, none⟩ = some (.slice bd bm bz) ∧ W2.cell? ⟨G, 4, none⟩ = some (.slice fd fm fz) ∧ W2.cell? ⟨G, 5, none⟩ = some (.slice ld lm lz) := HBX.out
      clear hres h0 HNB HMISS HTHERE HKD e0 e1 e2 e3 e4 e5
      obtain ⟨e0, e1, e2, e3, e4, e5⟩ := HBX.out
      go_wp2_with fail
      go_region_held3 (fun W => W.cell? ⟨G, 0, none⟩ = some (.int .i64 kd) ∧ W.cell? ⟨G, 1, none⟩ = some (.int .i64 nd) ∧ W.cell? ⟨G, 2, none⟩ = some (.string sd) ∧ W.cell? ⟨G, 3, none⟩ = some (.slice bd bm bz) ∧ W.cell? ⟨G, 4, none⟩ = some (.slice fd fm fz) ∧ W.cell? ⟨G, 5, none⟩ = some (.slice ld lm lz))
        (first | with_reducible exact hbx | with_reducible exact hbx2 | go_keep)
        ((go_at_call 19; refine (IH.out _ _ _ W2.drew (VIn.keep ((Below.refl _ W2).drew) HV3.out) (HP3.out.keep ((Below.refl _ W2).drew)) HN2.out).mono ?_; rintro e w5 ⟨v5, xs5, rfl, hA5, hB5⟩; have HA5 := Lib.hid hA5; have HW5 : Hid (Below W2.heap.size W2 w5) := ((Below.refl _ W2).drew).trans hB5; have hbx2 : w5.cell? ⟨G, 0, none⟩ = some (.int .i64 kd) ∧ w5.cell? ⟨G, 1, none⟩ = some (.int .i64 nd) ∧ w5.cell? ⟨G, 2, none⟩ = some (.string sd) ∧ w5.cell? ⟨G, 3, none⟩ = some (.slice bd bm bz) ∧ w5.cell? ⟨G, 4, none⟩ = some (.slice fd fm fz) ∧ w5.cell? ⟨G, 5, none⟩ = some (.slice ld lm lz) := ⟨cell_keep HW5.out e0, cell_keep HW5.out e1, cell_keep HW5.out e2, cell_keep HW5.out e3, cell_keep HW5.out e4, cell_keep HW5.out e5⟩; clear hA5 hB5))
      have hsz := HBW.out.size
      have HA6 : Hid (Acc w5 w.heap.size v5 (MineV Q w) H (Bson.all m (Bson.fieldIn x.f a) r) xs5) := HA5.out.mono hsz (fun g hg => by
        rcases hg with ⟨⟨h1, h2⟩, _⟩ | hg
        · exact .inl ⟨h1, h2⟩
        · exact .inr (Nat.le_trans hsz hg))
      have HB6 : Hid (Below w.heap.size w w5) := HBW.out.trans (HW5.out.mono hsz)
      go_wp2_with fail
      go_ret
      exact ⟨v5, xs5, rfl, by rw [HRES.out]; exact HA6.out, HB6.out⟩
  · clear hf hf2 hf3 z0 z1 z2 z3 z4 z5 g0 g1 g2 g3 g4 g5
    have HB3 : Hid (Below W0.heap.size W0 (puts w1 W0.heap.size 0 [.int .i64 kd, .int .i64 nd, .string sd, .slice bd bm bz, .slice fd fm fz, .slice ld lm lz])) := puts_below HB2.out (Nat.le_refl _) _ 0
    have HBX : Hid ((puts w1 W0.heap.size 0 [.int .i64 kd, .int .i64 nd, .string sd, .slice bd bm bz, .slice fd fm fz, .slice ld lm lz]).cell? ⟨W0.heap.size, 0, none⟩ = some (.int .i64 kd) ∧ (puts w1 W0.heap.size 0 [.int .i64 kd, .int .i64 nd, .string sd, .slice bd bm bz, .slice fd fm fz, .slice ld lm lz]).cell? ⟨W0.heap.size, 1, none⟩ = some (.int .i64 nd) ∧ (puts w1 W0.heap.size 0 [.int .i64 kd, .int .i64 nd, .string sd, .slice bd bm bz, .slice fd fm fz, .slice ld lm lz]).cell? ⟨W0.heap.size, 2, none⟩ = some (.string sd) ∧ (puts w1 W0.heap.size 0 [.int .i64 kd, .int .i64 nd, .string sd, .slice bd bm bz, .slice fd fm fz, .slice ld lm lz]).cell? ⟨W0.heap.size, 3, none⟩ = some (.slice bd bm bz) ∧ (puts w1 W0.heap.size 0 [.int .i64 kd, .int .i64 nd, .string sd, .slice bd bm bz, .slice fd fm fz, .slice ld lm lz]).cell? ⟨W0.heap.size, 4, none⟩ = some (.slice fd fm fz) ∧ (puts w1 W0.heap.size 0 [.int .i64 kd, .int .i64 nd, .string sd, .slice bd bm bz, .slice fd fm fz, .slice ld lm lz]).cell? ⟨W0.heap.size, 5, none⟩ = some (.slice ld lm lz)) := by
      have hr : Row6 w1 W0.heap.size 26 6 := ⟨_, HROW.out, rfl⟩
      obtain ⟨_, _, h7⟩ := hr.puts 0 [.int .i64 kd, .int .i64 nd, .string sd, .slice bd bm bz, .slice fd fm fz, .slice ld lm lz] (by show 0 + 6 ≤ 6; omega)
      exact ⟨(h7 0 (by show 0 < 6; omega)).trans rfl, (h7 1 (by show 1 < 6; omega)).trans rfl, (h7 2 (by show 2 < 6; omega)).trans rfl, (h7 3 (by show 3 < 6; omega)).trans rfl, (h7 4 (by show 4 < 6; omega)).trans rfl, (h7 5 (by show 5 < 6; omega)).trans rfl⟩
    have HV3 : Hid (VIn (puts w1 W0.heap.size 0 [.int .i64 kd, .int .i64 nd, .string sd, .slice bd bm bz, .slice fd fm fz, .slice ld lm lz]) (fun g => Q g ∧ g < w.heap.size) (h + 1) (Bson.fieldIn x.f a) (.agg #[.int .i64 kd, .int .i64 nd, .string sd, .slice bd bm bz, .slice fd fm fz, .slice ld lm lz])) := HV1.out.kept (puts_kept (fun g => Q g ∧ g < w.heap.size) (by have := HSZ0.out; omega) 0 _) (fun g hg => hg)
    clear HROW HV1 HF0
    generalize hW2 : ((((((w1.setCell ⟨W0.heap.size, 0, none⟩ (.int .i64 kd)).setCell ⟨W0.heap.size, 1, none⟩ (.int .i64 nd)).setCell ⟨W0.heap.size, 2, none⟩ (.string sd)).setCell ⟨W0.heap.size, 3, none⟩ (.slice bd bm bz)).setCell ⟨W0.heap.size, 4, none⟩ (.slice fd fm fz)).setCell ⟨W0.heap.size, 5, none⟩ (.slice ld lm lz)) = W2 at *
    have hW3 : puts w1 W0.heap.size 0 [.int .i64 kd, .int .i64 nd, .string sd, .slice bd bm bz, .slice fd fm fz, .slice ld lm lz] = W2 := hW2
    rw [hW3] at HB3 HBX HV3
    clear hW3
    have HBW : Hid (Below w.heap.size w W2) := HB1.out.trans (HB3.out.mono (by have := HSZ0.out; omega))
    have HP3 := Lib.hid (HPR.out.keep HBW.out)
    obtain ⟨e0, e1, e2, e3, e4, e5⟩ := HBX.out
    have hkd : kd = (Bson.fieldIn x.f a).kind := HV3.out.kind
    have HKD := Lib.hid hkd
    clear hkd hW2 HV HB1 HPR HB2 HB3
    by_cases h0 : kd = 0
    · subst h0
      have hres := HMISS.out HKD.out.symm
      have HRES := Lib.hid hres
      have HA : Hid (Acc (W2.alloc (.cells #[.int .i64 0, .int .i64 0, .string ⟨#[]⟩, .slice none 0 0, .slice none 0 0, .slice none 0 0] 26)) w.heap.size (.slice (some ⟨W2.heap.size, 0, none⟩) 1 1) (MineV Q w) H [Bson.zero] [.int .i64 0, .int .i64 0, .string ⟨#[]⟩, .slice none 0 0, .slice none 0 0, .slice none 0 0]) := Acc.lit HBW.out.size ((zero_in _ _).up (by omega))
      have HB5 : Hid (Below w.heap.size w (W2.alloc (.cells #[.int .i64 0, .int .i64 0, .string ⟨#[]⟩, .slice none 0 0, .slice none 0 0, .slice none 0 0] 26))) := HBW.out.alloc HBW.out.size _
      clear hres HBW HP3 HV3 HNB HMISS HTHERE
      go_wp2_with fail
      go_ret
      exact ⟨_, _, rfl, by rw [HRES.out]; exact HA.out, HB5.out⟩
    · have hkb : (kd == 0) = false := by simpa using h0
      have hres := HTHERE.out (by rw [← HKD.out]; exact h0)
      have HRES := Lib.hid hres
      have HN2 : Hid ((Bson.all m (Bson.fieldIn x.f a) r).length ≤ 1353245080339) := by have := HNB.out; rw [hres] at this; exact this
      have hbx : W2.cell? ⟨W0.heap.size, 0, none⟩ = some (.int .i64 kd) ∧ W2.cell? ⟨W0.heap.size, 1, none⟩ = some (.int .i64 nd) ∧ W2.cell? ⟨W0.heap.size, 2, none⟩ = some (.string sd) ∧ W2.cell? ⟨W0.heap.size, 3, none⟩ = some (.slice bd bm bz) ∧ W2.cell? ⟨W0.heap.size, 4, none⟩ = some (.slice fd fm fz) ∧ W2.cell? ⟨W0.heap.size, 5, none⟩ = some (.slice ld lm lz) := HBX.out
      clear hres h0 HNB HMISS HTHERE HKD e0 e1 e2 e3 e4 e5
      obtain ⟨e0, e1, e2, e3, e4, e5⟩ := HBX.out
      go_wp2_with fail
      go_region_held3 (fun W => W.cell? ⟨W0.heap.size, 0, none⟩ = some (.int .i64 kd) ∧ W.cell? ⟨W0.heap.size, 1, none⟩ = some (.int .i64 nd) ∧ W.cell? ⟨W0.heap.size, 2, none⟩ = some (.string sd) ∧ W.cell? ⟨W0.heap.size, 3, none⟩ = some (.slice bd bm bz) ∧ W.cell? ⟨W0.heap.size, 4, none⟩ = some (.slice fd fm fz) ∧ W.cell? ⟨W0.heap.size, 5, none⟩ = some (.slice ld lm lz))
        (first | with_reducible exact hbx | with_reducible exact hbx2 | go_keep)
        ((go_at_call 19; refine (IH.out _ _ _ W2.drew (VIn.keep ((Below.refl _ W2).drew) HV3.out) (HP3.out.keep ((Below.refl _ W2).drew)) HN2.out).mono ?_; rintro e w5 ⟨v5, xs5, rfl, hA5, hB5⟩; have HA5 := Lib.hid hA5; have HW5 : Hid (Below W2.heap.size W2 w5) := ((Below.refl _ W2).drew).trans hB5; have hbx2 : w5.cell? ⟨W0.heap.size, 0, none⟩ = some (.int .i64 kd) ∧ w5.cell? ⟨W0.heap.size, 1, none⟩ = some (.int .i64 nd) ∧ w5.cell? ⟨W0.heap.size, 2, none⟩ = some (.string sd) ∧ w5.cell? ⟨W0.heap.size, 3, none⟩ = some (.slice bd bm bz) ∧ w5.cell? ⟨W0.heap.size, 4, none⟩ = some (.slice fd fm fz) ∧ w5.cell? ⟨W0.heap.size, 5, none⟩ = some (.slice ld lm lz) := ⟨cell_keep HW5.out e0, cell_keep HW5.out e1, cell_keep HW5.out e2, cell_keep HW5.out e3, cell_keep HW5.out e4, cell_keep HW5.out e5⟩; clear hA5 hB5))
      have hsz := HBW.out.size
      have HA6 : Hid (Acc w5 w.heap.size v5 (MineV Q w) H (Bson.all m (Bson.fieldIn x.f a) r) xs5) := HA5.out.mono hsz (fun g hg => by
        rcases hg with ⟨⟨h1, h2⟩, _⟩ | hg
        · exact .inl ⟨h1, h2⟩
        · exact .inr (Nat.le_trans hsz hg))
      have HB6 : Hid (Below w.heap.size w w5) := HBW.out.trans (HW5.out.mono hsz)
      go_wp2_with fail
      go_ret
      exact ⟨v5, xs5, rfl, by rw [HRES.out]; exact HA6.out, HB6.out⟩
set_option maxRecDepth 100000 in
set_option maxHeartbeats 600000 in
theorem rall_last (H h : Nat) (hH : h + 1 ≤ H) (a : ByteArray) (r : List ByteArray) (g o : Nat) (m : Nat) (IH0 : RAllAt H (h + 1) r (some ⟨g, o, none⟩) 0 0 (fun y => Bson.all m y r)) (Q : Nat → Prop) (x : Val) (u : Value) (w : World) (hpn : (a :: r).length = 1) (h6 : x.kind = 6)
    (hv : VIn w Q (h + 1) x u) (hp : ∀ i (hi : i < (a :: r).length), w.cell? ⟨g, o + i, none⟩ = some (.string (a :: r)[i])) (hN : (Bson.all (m + 1) x (a :: r)).length ≤ 1353245080339) :
    Calls Tryd.prog 19 #[u, .slice (some ⟨g, o, none⟩) 1 1] w (RAllPost w Q H (Bson.all (m + 1) x (a :: r))) := by
  obtain ⟨xk, xn, xs0, ba, fa, la, bn, bc, fn, fc, ln, lc, rfl, hxk, hrest⟩ := hv.letters
  clear hrest
  obtain rfl : xk = 6 := by rw [hxk, h6]
  have HV : Hid (VIn (w.alloc (.cells #[.int .i64 6, .int .i64 xn, .string xs0, .slice ba bn bc, .slice fa fn fc, .slice la ln lc] 26)) (fun g => Q g ∧ g < w.heap.size) (h + 1) x (.agg #[.int .i64 6, .int .i64 xn, .string xs0, .slice ba bn bc, .slice fa fn fc, .slice la ln lc])) := VIn.keep ((Below.refl _ w).alloc (Nat.le_refl _) _) hv.lt
  have HB1 : Hid (Below w.heap.size w (w.alloc (.cells #[.int .i64 6, .int .i64 xn, .string xs0, .slice ba bn bc, .slice fa fn fc, .slice la ln lc] 26))) := (Below.refl _ w).alloc (Nat.le_refl _) _
  have hp0 : w.cell? ⟨g, o, none⟩ = some (.string a) := by have := hp 0 (by simp); rw [Nat.add_zero] at this; exact this
  have HPR : Hid (StrsIn w (some ⟨g, o, none⟩) r) := by
    refine .inl ?_
    cases r with
    | nil => rfl
    | cons b t => simp at hpn
  have HMISS : Hid ((Bson.fieldIn x.f a).kind = 0 → Bson.all (m + 1) x (a :: r) = [Bson.zero]) := fun e => Bson.all_missing m x a r h6 e
  have HTHERE : Hid ((Bson.fieldIn x.f a).kind ≠ 0 → Bson.all (m + 1) x (a :: r) = Bson.all m (Bson.fieldIn x.f a) r) := fun e => Bson.all_doc m x a r h6 e
  have HNB := Lib.hid hN
  have H6 := Lib.hid h6
  have hf : (w.alloc (.cells #[.int .i64 6, .int .i64 xn, .string xs0, .slice ba bn bc, .slice fa fn fc, .slice la ln lc] 26)).cell? ⟨w.heap.size, 0, none⟩ = some (.int .i64 6) ∧ (w.alloc (.cells #[.int .i64 6, .int .i64 xn, .string xs0, .slice ba bn bc, .slice fa fn fc, .slice la ln lc] 26)).cell? ⟨w.heap.size, 1, none⟩ = some (.int .i64 xn) ∧ (w.alloc (.cells #[.int .i64 6, .int .i64 xn, .string xs0, .slice ba bn bc, .slice fa fn fc, .slice la ln lc] 26)).cell? ⟨w.heap.size, 2, none⟩ = some (.string xs0) ∧ (w.alloc (.cells #[.int .i64 6, .int .i64 xn, .string xs0, .slice ba bn bc, .slice fa fn fc, .slice la ln lc] 26)).cell? ⟨w.heap.size, 3, none⟩ = some (.slice ba bn bc) ∧ (w.alloc (.cells #[.int .i64 6, .int .i64 xn, .string xs0, .slice ba bn bc, .slice fa fn fc, .slice la ln lc] 26)).cell? ⟨w.heap.size, 4, none⟩ = some (.slice fa fn fc) ∧ (w.alloc (.cells #[.int .i64 6, .int .i64 xn, .string xs0, .slice ba bn bc, .slice fa fn fc, .slice la ln lc] 26)).cell? ⟨w.heap.size, 5, none⟩ = some (.slice la ln lc) ∧ (w.alloc (.cells #[.int .i64 6, .int .i64 xn, .string xs0, .slice ba bn bc, .slice fa fn fc, .slice la ln lc] 26)).cell? ⟨g, o, none⟩ = some (.string a) := by
    have e := heap_alloc_new w (.cells #[.int .i64 6, .int .i64 xn, .string xs0, .slice ba bn bc, .slice fa fn fc, .slice la ln lc] 26)
    exact ⟨(cell_of_row _ _ 0 _ _ _ e).trans rfl, (cell_of_row _ _ 1 _ _ _ e).trans rfl, (cell_of_row _ _ 2 _ _ _ e).trans rfl, (cell_of_row _ _ 3 _ _ _ e).trans rfl, (cell_of_row _ _ 4 _ _ _ e).trans rfl, (cell_of_row _ _ 5 _ _ _ e).trans rfl, cell_keep HB1.out hp0⟩
  have HF0 := Lib.hid hf
  have HSZ0 : Hid (w.heap.size < (w.alloc (.cells #[.int .i64 6, .int .i64 xn, .string xs0, .slice ba bn bc, .slice fa fn fc, .slice la ln lc] 26)).heap.size) := by show _ < _; simp
  have HG0 : Hid (g < (w.alloc (.cells #[.int .i64 6, .int .i64 xn, .string xs0, .slice ba bn bc, .slice fa fn fc, .slice la ln lc] 26)).heap.size) := by have := World.block_lt_of_cell? w _ hp0; show _ < _; simp at this ⊢; omega
  have IH := Lib.hid IH0
  clear hv hp hp0 hN hxk hpn h6 IH0
  generalize hW0 : w.alloc (.cells #[.int .i64 6, .int .i64 xn, .string xs0, .slice ba bn bc, .slice fa fn fc, .slice la ln lc] 26) = W0 at *
  go_enter Tryd.func19, Tryd.ntmps19
  go_wp2_with fail
  clear hW0
  go_region_held3 (fun W => W.cell? ⟨w.heap.size, 0, none⟩ = some (.int .i64 6) ∧ W.cell? ⟨w.heap.size, 1, none⟩ = some (.int .i64 xn) ∧ W.cell? ⟨w.heap.size, 2, none⟩ = some (.string xs0) ∧ W.cell? ⟨w.heap.size, 3, none⟩ = some (.slice ba bn bc) ∧ W.cell? ⟨w.heap.size, 4, none⟩ = some (.slice fa fn fc) ∧ W.cell? ⟨w.heap.size, 5, none⟩ = some (.slice la ln lc) ∧ W.cell? ⟨g, o, none⟩ = some (.string a))
    (first | with_reducible exact hf | with_reducible exact hf2 | with_reducible exact hf3 | with_reducible exact hf4 | go_keep)
    ((first
      | (go_at_call 23; refine (refField_doc _ h x _ a W0.drew (VIn.keep ((Below.refl _ W0).drew) HV.out) H6.out).mono ?_; rintro e w1 ⟨v1, rfl, hv1, hb1⟩; have HB2 : Hid (Below W0.heap.size W0 w1) := (Below.refl _ W0).drew.trans hb1; obtain ⟨kd, nd, sd, bd, fd, ld, bm, bz, fm, fz, lm, lz, rfl⟩ := hv1.shape; have HV1 := Lib.hid hv1; have hf2 : w1.cell? ⟨w.heap.size, 0, none⟩ = some (.int .i64 6) ∧ w1.cell? ⟨w.heap.size, 1, none⟩ = some (.int .i64 xn) ∧ w1.cell? ⟨w.heap.size, 2, none⟩ = some (.string xs0) ∧ w1.cell? ⟨w.heap.size, 3, none⟩ = some (.slice ba bn bc) ∧ w1.cell? ⟨w.heap.size, 4, none⟩ = some (.slice fa fn fc) ∧ w1.cell? ⟨w.heap.size, 5, none⟩ = some (.slice la ln lc) ∧ w1.cell? ⟨g, o, none⟩ = some (.string a) := ⟨cell_keep HB2.out HF0.out.1, cell_keep HB2.out HF0.out.2.1, cell_keep HB2.out HF0.out.2.2.1, cell_keep HB2.out HF0.out.2.2.2.1, cell_keep HB2.out HF0.out.2.2.2.2.1, cell_keep HB2.out HF0.out.2.2.2.2.2.1, cell_keep HB2.out HF0.out.2.2.2.2.2.2⟩; clear hv1 hb1)
      | (go_at_call 23; refine (refField_doc _ h x _ a (W0.alloc (.cells #[.int .i64 0, .int .i64 0, .string ⟨#[]⟩, .slice none 0 0, .slice none 0 0, .slice none 0 0] 26)).drew (VIn.keep (((Below.refl _ W0).alloc (Nat.le_refl _) (.cells #[.int .i64 0, .int .i64 0, .string ⟨#[]⟩, .slice none 0 0, .slice none 0 0, .slice none 0 0] 26)).drew) HV.out) H6.out).mono ?_; rintro e w1 ⟨v1, rfl, hv1, hb1⟩; have HB2 : Hid (Below W0.heap.size W0 w1) := (((Below.refl _ W0).alloc (Nat.le_refl _) (.cells #[.int .i64 0, .int .i64 0, .string ⟨#[]⟩, .slice none 0 0, .slice none 0 0, .slice none 0 0] 26)).drew).trans (hb1.mono (by simp)); have hrow : w1.heap[W0.heap.size]? = some (.cells #[.int .i64 0, .int .i64 0, .string ⟨#[]⟩, .slice none 0 0, .slice none 0 0, .slice none 0 0] 26 (0, 0)) := (hb1.block _ (by simp)).trans (heap_alloc_new W0 _); have HROW := Lib.hid hrow; have z0 : w1.cell? ⟨W0.heap.size, 0, none⟩ = some (.int .i64 0) := (cell_of_row _ _ 0 _ _ _ hrow).trans rfl; have z1 : w1.cell? ⟨W0.heap.size, 1, none⟩ = some (.int .i64 0) := (cell_of_row _ _ 1 _ _ _ hrow).trans rfl; have z2 : w1.cell? ⟨W0.heap.size, 2, none⟩ = some (.string { data := #[] }) := (cell_of_row _ _ 2 _ _ _ hrow).trans rfl; have z3 : w1.cell? ⟨W0.heap.size, 3, none⟩ = some (.slice none 0 0) := (cell_of_row _ _ 3 _ _ _ hrow).trans rfl; have z4 : w1.cell? ⟨W0.heap.size, 4, none⟩ = some (.slice none 0 0) := (cell_of_row _ _ 4 _ _ _ hrow).trans rfl; have z5 : w1.cell? ⟨W0.heap.size, 5, none⟩ = some (.slice none 0 0) := (cell_of_row _ _ 5 _ _ _ hrow).trans rfl; have g0 : w1.frozen? ⟨W0.heap.size, 0, none⟩ = false := frozen_of_row _ _ 0 _ _ hrow; have g1 : w1.frozen? ⟨W0.heap.size, 1, none⟩ = false := frozen_of_row _ _ 1 _ _ hrow; have g2 : w1.frozen? ⟨W0.heap.size, 2, none⟩ = false := frozen_of_row _ _ 2 _ _ hrow; have g3 : w1.frozen? ⟨W0.heap.size, 3, none⟩ = false := frozen_of_row _ _ 3 _ _ hrow; have g4 : w1.frozen? ⟨W0.heap.size, 4, none⟩ = false := frozen_of_row _ _ 4 _ _ hrow; have g5 : w1.frozen? ⟨W0.heap.size, 5, none⟩ = false := frozen_of_row _ _ 5 _ _ hrow; clear hrow; obtain ⟨kd, nd, sd, bd, fd, ld, bm, bz, fm, fz, lm, lz, rfl⟩ := hv1.shape; have HV1 := Lib.hid hv1; have hf2 : w1.cell? ⟨w.heap.size, 0, none⟩ = some (.int .i64 6) ∧ w1.cell? ⟨w.heap.size, 1, none⟩ = some (.int .i64 xn) ∧ w1.cell? ⟨w.heap.size, 2, none⟩ = some (.string xs0) ∧ w1.cell? ⟨w.heap.size, 3, none⟩ = some (.slice ba bn bc) ∧ w1.cell? ⟨w.heap.size, 4, none⟩ = some (.slice fa fn fc) ∧ w1.cell? ⟨w.heap.size, 5, none⟩ = some (.slice la ln lc) ∧ w1.cell? ⟨g, o, none⟩ = some (.string a) := ⟨cell_keep HB2.out HF0.out.1, cell_keep HB2.out HF0.out.2.1, cell_keep HB2.out HF0.out.2.2.1, cell_keep HB2.out HF0.out.2.2.2.1, cell_keep HB2.out HF0.out.2.2.2.2.1, cell_keep HB2.out HF0.out.2.2.2.2.2.1, cell_keep HB2.out HF0.out.2.2.2.2.2.2⟩; clear hv1 hb1; have hf3 : ((((((w1.setCell ⟨W0.heap.size, 0, none⟩ (.int .i64 kd)).setCell ⟨W0.heap.size, 1, none⟩ (.int .i64 nd)).setCell ⟨W0.heap.size, 2, none⟩ (.string sd)).setCell ⟨W0.heap.size, 3, none⟩ (.slice bd bm bz)).setCell ⟨W0.heap.size, 4, none⟩ (.slice fd fm fz)).setCell ⟨W0.heap.size, 5, none⟩ (.slice ld lm lz)).cell? ⟨w.heap.size, 0, none⟩ = some (.int .i64 6) ∧ ((((((w1.setCell ⟨W0.heap.size, 0, none⟩ (.int .i64 kd)).setCell ⟨W0.heap.size, 1, none⟩ (.int .i64 nd)).setCell ⟨W0.heap.size, 2, none⟩ (.string sd)).setCell ⟨W0.heap.size, 3, none⟩ (.slice bd bm bz)).setCell ⟨W0.heap.size, 4, none⟩ (.slice fd fm fz)).setCell ⟨W0.heap.size, 5, none⟩ (.slice ld lm lz)).cell? ⟨w.heap.size, 1, none⟩ = some (.int .i64 xn) ∧ ((((((w1.setCell ⟨W0.heap.size, 0, none⟩ (.int .i64 kd)).setCell ⟨W0.heap.size, 1, none⟩ (.int .i64 nd)).setCell ⟨W0.heap.size, 2, none⟩ (.string sd)).setCell ⟨W0.heap.size, 3, none⟩ (.slice bd bm bz)).setCell ⟨W0.heap.size, 4, none⟩ (.slice fd fm fz)).setCell ⟨W0.heap.size, 5, none⟩ (.slice ld lm lz)).cell? ⟨w.heap.size, 2, none⟩ = some (.string xs0) ∧ ((((((w1.setCell ⟨W0.heap.size, 0, none⟩ (.int .i64 kd)).setCell ⟨W0.heap.size, 1, none⟩ (.int .i64 nd)).setCell ⟨W0.heap.size, 2, none⟩ (.string sd)).setCell ⟨W0.heap.size, 3, none⟩ (.slice bd bm bz)).setCell ⟨W0.heap.size, 4, none⟩ (.slice fd fm fz)).setCell ⟨W0.heap.size, 5, none⟩ (.slice ld lm lz)).cell? ⟨w.heap.size, 3, none⟩ = some (.slice ba bn bc) ∧ ((((((w1.setCell ⟨W0.heap.size, 0, none⟩ (.int .i64 kd)).setCell ⟨W0.heap.size, 1, none⟩ (.int .i64 nd)).setCell ⟨W0.heap.size, 2, none⟩ (.string sd)).setCell ⟨W0.heap.size, 3, none⟩ (.slice bd bm bz)).setCell ⟨W0.heap.size, 4, none⟩ (.slice fd fm fz)).setCell ⟨W0.heap.size, 5, none⟩ (.slice ld lm lz)).cell? ⟨w.heap.size, 4, none⟩ = some (.slice fa fn fc) ∧ ((((((w1.setCell ⟨W0.heap.size, 0, none⟩ (.int .i64 kd)).setCell ⟨W0.heap.size, 1, none⟩ (.int .i64 nd)).setCell ⟨W0.heap.size, 2, none⟩ (.string sd)).setCell ⟨W0.heap.size, 3, none⟩ (.slice bd bm bz)).setCell ⟨W0.heap.size, 4, none⟩ (.slice fd fm fz)).setCell ⟨W0.heap.size, 5, none⟩ (.slice ld lm lz)).cell? ⟨w.heap.size, 5, none⟩ = some (.slice la ln lc) ∧ ((((((w1.setCell ⟨W0.heap.size, 0, none⟩ (.int .i64 kd)).setCell ⟨W0.heap.size, 1, none⟩ (.int .i64 nd)).setCell ⟨W0.heap.size, 2, none⟩ (.string sd)).setCell ⟨W0.heap.size, 3, none⟩ (.slice bd bm bz)).setCell ⟨W0.heap.size, 4, none⟩ (.slice fd fm fz)).setCell ⟨W0.heap.size, 5, none⟩ (.slice ld lm lz)).cell? ⟨g, o, none⟩ = some (.string a) := after_put hf2 W0.heap.size (by have := HSZ0.out; omega) (by have := HG0.out; omega) [.int .i64 kd, .int .i64 nd, .string sd, .slice bd bm bz, .slice fd fm fz, .slice ld lm lz])))
  · clear hf hf2
    have HB3 : Hid (Below W0.heap.size W0 (w1.alloc (.cells #[.int .i64 kd, .int .i64 nd, .string sd, .slice bd bm bz, .slice fd fm fz, .slice ld lm lz] 26))) := HB2.out.alloc HB2.out.size _
    have hrow2 := heap_alloc_new w1 (.cells #[.int .i64 kd, .int .i64 nd, .string sd, .slice bd bm bz, .slice fd fm fz, .slice ld lm lz] 26)
    have HBX : Hid ((w1.alloc (.cells #[.int .i64 kd, .int .i64 nd, .string sd, .slice bd bm bz, .slice fd fm fz, .slice ld lm lz] 26)).cell? ⟨w1.heap.size, 0, none⟩ = some (.int .i64 kd) ∧ (w1.alloc (.cells #[.int .i64 kd, .int .i64 nd, .string sd, .slice bd bm bz, .slice fd fm fz, .slice ld lm lz] 26)).cell? ⟨w1.heap.size, 1, none⟩ = some (.int .i64 nd) ∧ (w1.alloc (.cells #[.int .i64 kd, .int .i64 nd, .string sd, .slice bd bm bz, .slice fd fm fz, .slice ld lm lz] 26)).cell? ⟨w1.heap.size, 2, none⟩ = some (.string sd) ∧ (w1.alloc (.cells #[.int .i64 kd, .int .i64 nd, .string sd, .slice bd bm bz, .slice fd fm fz, .slice ld lm lz] 26)).cell? ⟨w1.heap.size, 3, none⟩ = some (.slice bd bm bz) ∧ (w1.alloc (.cells #[.int .i64 kd, .int .i64 nd, .string sd, .slice bd bm bz, .slice fd fm fz, .slice ld lm lz] 26)).cell? ⟨w1.heap.size, 4, none⟩ = some (.slice fd fm fz) ∧ (w1.alloc (.cells #[.int .i64 kd, .int .i64 nd, .string sd, .slice bd bm bz, .slice fd fm fz, .slice ld lm lz] 26)).cell? ⟨w1.heap.size, 5, none⟩ = some (.slice ld lm lz)) := ⟨(cell_of_row _ _ 0 _ _ _ hrow2).trans rfl, (cell_of_row _ _ 1 _ _ _ hrow2).trans rfl, (cell_of_row _ _ 2 _ _ _ hrow2).trans rfl, (cell_of_row _ _ 3 _ _ _ hrow2).trans rfl, (cell_of_row _ _ 4 _ _ _ hrow2).trans rfl, (cell_of_row _ _ 5 _ _ _ hrow2).trans rfl⟩
    have HV3 : Hid (VIn (w1.alloc (.cells #[.int .i64 kd, .int .i64 nd, .string sd, .slice bd bm bz, .slice fd fm fz, .slice ld lm lz] 26)) (fun g => Q g ∧ g < w.heap.size) (h + 1) (Bson.fieldIn x.f a) (.agg #[.int .i64 kd, .int .i64 nd, .string sd, .slice bd bm bz, .slice fd fm fz, .slice ld lm lz])) := HV1.out.keep ((Below.refl _ w1).alloc (Nat.le_refl _) _)
    clear hrow2 HV1 HF0
    generalize hW2 : w1.alloc (.cells #[.int .i64 kd, .int .i64 nd, .string sd, .slice bd bm bz, .slice fd fm fz, .slice ld lm lz] 26) = W2 at *
    generalize hGG : w1.heap.size = G at *
    have HBW : Hid (Below w.heap.size w W2) := HB1.out.trans (HB3.out.mono (by have := HSZ0.out; omega))
    have HP3 := Lib.hid (HPR.out.keep HBW.out)
    obtain ⟨e0, e1, e2, e3, e4, e5⟩ := HBX.out
    have hkd : kd = (Bson.fieldIn x.f a).kind := HV3.out.kind
    have HKD := Lib.hid hkd
    clear hkd hW2 HV HB1 HPR HB2 HB3
    by_cases h0 : kd = 0
    · subst h0
      have hres := HMISS.out HKD.out.symm
      have HRES := Lib.hid hres
      have HA : Hid (Acc (W2.alloc (.cells #[.int .i64 0, .int .i64 0, .string ⟨#[]⟩, .slice none 0 0, .slice none 0 0, .slice none 0 0] 26)) w.heap.size (.slice (some ⟨W2.heap.size, 0, none⟩) 1 1) (MineV Q w) H [Bson.zero] [.int .i64 0, .int .i64 0, .string ⟨#[]⟩, .slice none 0 0, .slice none 0 0, .slice none 0 0]) := Acc.lit HBW.out.size ((zero_in _ _).up (by omega))
      have HB5 : Hid (Below w.heap.size w (W2.alloc (.cells #[.int .i64 0, .int .i64 0, .string ⟨#[]⟩, .slice none 0 0, .slice none 0 0, .slice none 0 0] 26))) := HBW.out.alloc HBW.out.size _
      clear hres HBW HP3 HV3 HNB HMISS HTHERE
      go_wp2_with fail
      go_ret
      exact ⟨_, _, rfl, by rw [HRES.out]; exact HA.out, HB5.out⟩
    · have hkb : (kd == 0) = false := by simpa using h0
      have hres := HTHERE.out (by rw [← HKD.out]; exact h0)
      have HRES := Lib.hid hres
      have HN2 : Hid ((Bson.all m (Bson.fieldIn x.f a) r).length ≤ 1353245080339) := by have := HNB.out; rw [hres] at this; exact this
      have hbx : W2.cell? ⟨G, 0, none⟩ = some (.int .i64 kd) ∧ W2.cell? ⟨G, 1, none⟩ = some (.int .i64 nd) ∧ W2.cell? ⟨G, 2, none⟩ = some (.string sd) ∧ W2.cell? ⟨G, 3, none⟩ = some (.slice bd bm bz) ∧ W2.cell? ⟨G, 4, none⟩ = some (.slice fd fm fz) ∧ W2.cell? ⟨G, 5, none⟩ = some (.slice ld lm lz) := HBX.out
      clear hres h0 HNB HMISS HTHERE HKD e0 e1 e2 e3 e4 e5
      obtain ⟨e0, e1, e2, e3, e4, e5⟩ := HBX.out
      go_wp2_with fail
      go_region_held3 (fun W => W.cell? ⟨G, 0, none⟩ = some (.int .i64 kd) ∧ W.cell? ⟨G, 1, none⟩ = some (.int .i64 nd) ∧ W.cell? ⟨G, 2, none⟩ = some (.string sd) ∧ W.cell? ⟨G, 3, none⟩ = some (.slice bd bm bz) ∧ W.cell? ⟨G, 4, none⟩ = some (.slice fd fm fz) ∧ W.cell? ⟨G, 5, none⟩ = some (.slice ld lm lz))
        (first | with_reducible exact hbx | with_reducible exact hbx2 | go_keep)
        ((go_at_call 19; refine (IH.out _ _ _ W2.drew (VIn.keep ((Below.refl _ W2).drew) HV3.out) (HP3.out.keep ((Below.refl _ W2).drew)) HN2.out).mono ?_; rintro e w5 ⟨v5, xs5, rfl, hA5, hB5⟩; have HA5 := Lib.hid hA5; have HW5 : Hid (Below W2.heap.size W2 w5) := ((Below.refl _ W2).drew).trans hB5; have hbx2 : w5.cell? ⟨G, 0, none⟩ = some (.int .i64 kd) ∧ w5.cell? ⟨G, 1, none⟩ = some (.int .i64 nd) ∧ w5.cell? ⟨G, 2, none⟩ = some (.string sd) ∧ w5.cell? ⟨G, 3, none⟩ = some (.slice bd bm bz) ∧ w5.cell? ⟨G, 4, none⟩ = some (.slice fd fm fz) ∧ w5.cell? ⟨G, 5, none⟩ = some (.slice ld lm lz) := ⟨cell_keep HW5.out e0, cell_keep HW5.out e1, cell_keep HW5.out e2, cell_keep HW5.out e3, cell_keep HW5.out e4, cell_keep HW5.out e5⟩; clear hA5 hB5))
      have hsz := HBW.out.size
      have HA6 : Hid (Acc w5 w.heap.size v5 (MineV Q w) H (Bson.all m (Bson.fieldIn x.f a) r) xs5) := HA5.out.mono hsz (fun g hg => by
        rcases hg with ⟨⟨h1, h2⟩, _⟩ | hg
        · exact .inl ⟨h1, h2⟩
        · exact .inr (Nat.le_trans hsz hg))
      have HB6 : Hid (Below w.heap.size w w5) := HBW.out.trans (HW5.out.mono hsz)
      go_wp2_with fail
      go_ret
      exact ⟨v5, xs5, rfl, by rw [HRES.out]; exact HA6.out, HB6.out⟩
  · clear hf hf2 hf3 z0 z1 z2 z3 z4 z5 g0 g1 g2 g3 g4 g5
    have HB3 : Hid (Below W0.heap.size W0 (puts w1 W0.heap.size 0 [.int .i64 kd, .int .i64 nd, .string sd, .slice bd bm bz, .slice fd fm fz, .slice ld lm lz])) := puts_below HB2.out (Nat.le_refl _) _ 0
    have HBX : Hid ((puts w1 W0.heap.size 0 [.int .i64 kd, .int .i64 nd, .string sd, .slice bd bm bz, .slice fd fm fz, .slice ld lm lz]).cell? ⟨W0.heap.size, 0, none⟩ = some (.int .i64 kd) ∧ (puts w1 W0.heap.size 0 [.int .i64 kd, .int .i64 nd, .string sd, .slice bd bm bz, .slice fd fm fz, .slice ld lm lz]).cell? ⟨W0.heap.size, 1, none⟩ = some (.int .i64 nd) ∧ (puts w1 W0.heap.size 0 [.int .i64 kd, .int .i64 nd, .string sd, .slice bd bm bz, .slice fd fm fz, .slice ld lm lz]).cell? ⟨W0.heap.size, 2, none⟩ = some (.string sd) ∧ (puts w1 W0.heap.size 0 [.int .i64 kd, .int .i64 nd, .string sd, .slice bd bm bz, .slice fd fm fz, .slice ld lm lz]).cell? ⟨W0.heap.size, 3, none⟩ = some (.slice bd bm bz) ∧ (puts w1 W0.heap.size 0 [.int .i64 kd, .int .i64 nd, .string sd, .slice bd bm bz, .slice fd fm fz, .slice ld lm lz]).cell? ⟨W0.heap.size, 4, none⟩ = some (.slice fd fm fz) ∧ (puts w1 W0.heap.size 0 [.int .i64 kd, .int .i64 nd, .string sd, .slice bd bm bz, .slice fd fm fz, .slice ld lm lz]).cell? ⟨W0.heap.size, 5, none⟩ = some (.slice ld lm lz)) := by
      have hr : Row6 w1 W0.heap.size 26 6 := ⟨_, HROW.out, rfl⟩
      obtain ⟨_, _, h7⟩ := hr.puts 0 [.int .i64 kd, .int .i64 nd, .string sd, .slice bd bm bz, .slice fd fm fz, .slice ld lm lz] (by show 0 + 6 ≤ 6; omega)
      exact ⟨(h7 0 (by show 0 < 6; omega)).trans rfl, (h7 1 (by show 1 < 6; omega)).trans rfl, (h7 2 (by show 2 < 6; omega)).trans rfl, (h7 3 (by show 3 < 6; omega)).trans rfl, (h7 4 (by show 4 < 6; omega)).trans rfl, (h7 5 (by show 5 < 6; omega)).trans rfl⟩
    have HV3 : Hid (VIn (puts w1 W0.heap.size 0 [.int .i64 kd, .int .i64 nd, .string sd, .slice bd bm bz, .slice fd fm fz, .slice ld lm lz]) (fun g => Q g ∧ g < w.heap.size) (h + 1) (Bson.fieldIn x.f a) (.agg #[.int .i64 kd, .int .i64 nd, .string sd, .slice bd bm bz, .slice fd fm fz, .slice ld lm lz])) := HV1.out.kept (puts_kept (fun g => Q g ∧ g < w.heap.size) (by have := HSZ0.out; omega) 0 _) (fun g hg => hg)
    clear HROW HV1 HF0
    generalize hW2 : ((((((w1.setCell ⟨W0.heap.size, 0, none⟩ (.int .i64 kd)).setCell ⟨W0.heap.size, 1, none⟩ (.int .i64 nd)).setCell ⟨W0.heap.size, 2, none⟩ (.string sd)).setCell ⟨W0.heap.size, 3, none⟩ (.slice bd bm bz)).setCell ⟨W0.heap.size, 4, none⟩ (.slice fd fm fz)).setCell ⟨W0.heap.size, 5, none⟩ (.slice ld lm lz)) = W2 at *
    have hW3 : puts w1 W0.heap.size 0 [.int .i64 kd, .int .i64 nd, .string sd, .slice bd bm bz, .slice fd fm fz, .slice ld lm lz] = W2 := hW2
    rw [hW3] at HB3 HBX HV3
    clear hW3
    have HBW : Hid (Below w.heap.size w W2) := HB1.out.trans (HB3.out.mono (by have := HSZ0.out; omega))
    have HP3 := Lib.hid (HPR.out.keep HBW.out)
    obtain ⟨e0, e1, e2, e3, e4, e5⟩ := HBX.out
    have hkd : kd = (Bson.fieldIn x.f a).kind := HV3.out.kind
    have HKD := Lib.hid hkd
    clear hkd hW2 HV HB1 HPR HB2 HB3
    by_cases h0 : kd = 0
    · subst h0
      have hres := HMISS.out HKD.out.symm
      have HRES := Lib.hid hres
      have HA : Hid (Acc (W2.alloc (.cells #[.int .i64 0, .int .i64 0, .string ⟨#[]⟩, .slice none 0 0, .slice none 0 0, .slice none 0 0] 26)) w.heap.size (.slice (some ⟨W2.heap.size, 0, none⟩) 1 1) (MineV Q w) H [Bson.zero] [.int .i64 0, .int .i64 0, .string ⟨#[]⟩, .slice none 0 0, .slice none 0 0, .slice none 0 0]) := Acc.lit HBW.out.size ((zero_in _ _).up (by omega))
      have HB5 : Hid (Below w.heap.size w (W2.alloc (.cells #[.int .i64 0, .int .i64 0, .string ⟨#[]⟩, .slice none 0 0, .slice none 0 0, .slice none 0 0] 26))) := HBW.out.alloc HBW.out.size _
      clear hres HBW HP3 HV3 HNB HMISS HTHERE
      go_wp2_with fail
      go_ret
      exact ⟨_, _, rfl, by rw [HRES.out]; exact HA.out, HB5.out⟩
    · have hkb : (kd == 0) = false := by simpa using h0
      have hres := HTHERE.out (by rw [← HKD.out]; exact h0)
      have HRES := Lib.hid hres
      have HN2 : Hid ((Bson.all m (Bson.fieldIn x.f a) r).length ≤ 1353245080339) := by have := HNB.out; rw [hres] at this; exact this
      have hbx : W2.cell? ⟨W0.heap.size, 0, none⟩ = some (.int .i64 kd) ∧ W2.cell? ⟨W0.heap.size, 1, none⟩ = some (.int .i64 nd) ∧ W2.cell? ⟨W0.heap.size, 2, none⟩ = some (.string sd) ∧ W2.cell? ⟨W0.heap.size, 3, none⟩ = some (.slice bd bm bz) ∧ W2.cell? ⟨W0.heap.size, 4, none⟩ = some (.slice fd fm fz) ∧ W2.cell? ⟨W0.heap.size, 5, none⟩ = some (.slice ld lm lz) := HBX.out
      clear hres h0 HNB HMISS HTHERE HKD e0 e1 e2 e3 e4 e5
      obtain ⟨e0, e1, e2, e3, e4, e5⟩ := HBX.out
      go_wp2_with fail
      go_region_held3 (fun W => W.cell? ⟨W0.heap.size, 0, none⟩ = some (.int .i64 kd) ∧ W.cell? ⟨W0.heap.size, 1, none⟩ = some (.int .i64 nd) ∧ W.cell? ⟨W0.heap.size, 2, none⟩ = some (.string sd) ∧ W.cell? ⟨W0.heap.size, 3, none⟩ = some (.slice bd bm bz) ∧ W.cell? ⟨W0.heap.size, 4, none⟩ = some (.slice fd fm fz) ∧ W.cell? ⟨W0.heap.size, 5, none⟩ = some (.slice ld lm lz))
        (first | with_reducible exact hbx | with_reducible exact hbx2 | go_keep)
        ((go_at_call 19; refine (IH.out _ _ _ W2.drew (VIn.keep ((Below.refl _ W2).drew) HV3.out) (HP3.out.keep ((Below.refl _ W2).drew)) HN2.out).mono ?_; rintro e w5 ⟨v5, xs5, rfl, hA5, hB5⟩; have HA5 := Lib.hid hA5; have HW5 : Hid (Below W2.heap.size W2 w5) := ((Below.refl _ W2).drew).trans hB5; have hbx2 : w5.cell? ⟨W0.heap.size, 0, none⟩ = some (.int .i64 kd) ∧ w5.cell? ⟨W0.heap.size, 1, none⟩ = some (.int .i64 nd) ∧ w5.cell? ⟨W0.heap.size, 2, none⟩ = some (.string sd) ∧ w5.cell? ⟨W0.heap.size, 3, none⟩ = some (.slice bd bm bz) ∧ w5.cell? ⟨W0.heap.size, 4, none⟩ = some (.slice fd fm fz) ∧ w5.cell? ⟨W0.heap.size, 5, none⟩ = some (.slice ld lm lz) := ⟨cell_keep HW5.out e0, cell_keep HW5.out e1, cell_keep HW5.out e2, cell_keep HW5.out e3, cell_keep HW5.out e4, cell_keep HW5.out e5⟩; clear hA5 hB5))
      have hsz := HBW.out.size
      have HA6 : Hid (Acc w5 w.heap.size v5 (MineV Q w) H (Bson.all m (Bson.fieldIn x.f a) r) xs5) := HA5.out.mono hsz (fun g hg => by
        rcases hg with ⟨⟨h1, h2⟩, _⟩ | hg
        · exact .inl ⟨h1, h2⟩
        · exact .inr (Nat.le_trans hsz hg))
      have HB6 : Hid (Below w.heap.size w w5) := HBW.out.trans (HW5.out.mono hsz)
      go_wp2_with fail
      go_ret
      exact ⟨v5, xs5, rfl, by rw [HRES.out]; exact HA6.out, HB6.out⟩
theorem rall_any (H : Nat) : ∀ (n h : Nat) (p : List ByteArray) (pa : Option Addr) (pn pc : Nat), p.length + h ≤ n → h + 1 ≤ H → p.length = pn → pn ≤ pc → RAllAt H (h + 1) p pa pn pc (fun x => Bson.all n x p)
  | n, h, [], pa, pn, pc, _, hH, hpn, _ => by
    obtain rfl : 0 = pn := hpn
    exact rall_empty H h hH pa pc n
  | 0, h, a :: r, pa, pn, pc, hle, _, _, _ => by simp at hle
  | m + 1, h, a :: r, pa, pn, pc, hle, hH, hpn, hpc => by
    intro Q x u w hv hp hN
    have hp2 := hp
    obtain ⟨g, o, rfl, hcell⟩ := hp.resolve_left (by simp)
    simp only [List.length_cons] at hle hpn
    by_cases h6 : x.kind = 6
    · by_cases hc1 : pc = 1
      · subst hc1
        obtain rfl : pn = 1 := by omega
        refine rall_last H h hH a r g o m ?_ Q x u w (by simpa using hpn) h6 hv hcell hN
        cases r with
        | nil => exact rall_empty H h hH _ 0 m
        | cons b t => simp at hpn
      · exact rall_doc H h hH a r g o pn pc m (rall_any H m h r _ (pn - 1) (pc - 1) (by omega) hH (by omega) (by omega)) Q x u w (by simpa using hpn) hpc hc1 h6 hv hcell hN
    · by_cases h7 : x.kind = 7
      · refine rall_items H h (by omega) (a :: r) _ pn pc m ?_ Q x u w (by simp) (by simpa using hpn) h7 hv hp2 hN
        cases h with
        | zero => intro _ _ _ _ hv _ _; exact hv.elim
        | succ h => exact rall_any H m h (a :: r) _ pn pc (by simp; omega) (by omega) (by simpa using hpn) hpc
      · exact rall_else H h (by omega) (a :: r) _ pn pc (m + 1) Q x u w (by simp) (by simpa using hpn) h6 h7 hv
end Go.Proofs.YtdcfddiicclpeaaDoor
end
