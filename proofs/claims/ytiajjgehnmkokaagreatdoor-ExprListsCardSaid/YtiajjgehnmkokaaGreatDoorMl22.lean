/- ExprRText, ExprRDocument, ExprROper, ExprRDoc. -/
import Derived.Test.YtiajjgehnmkokaaGreatDoorMl21
import Derived.Test.YtiajjgehnmkokaaGreatDoorMl20
set_option maxRecDepth 100000
set_option maxHeartbeats 20000000
section
namespace Go.Proofs.YtiajjgehnmkokaaGreatDoor
open Go.RowKit
open Seal
open Bson (Val)
theorem infoNames : (Tryz.prog.info? 42).map (fun i => (i.zero, i.size, i.bytes)) = some (some (.slice none 0 0), 1, 24) := by kernel_rfl
theorem parse_len {l : List UInt8} {p : List (List UInt8)} (h : Path.parse l = some p) : p.length ≤ 16 := by
 unfold Path.parse at h
 split at h
 ·rename_i h2; rw [← Option.some.inj h]; exact h2.2
 ·cases h
theorem cut_list (s : ByteArray) : (s.extract 1 s.size).data.toList = s.data.toList.drop 1 := by
 obtain ⟨⟨l⟩⟩ := s
 simp [ByteArray.extract, ByteArray.copySlice, ByteArray.size]
 exact List.take_of_length_le (by simp)
theorem Rd.push {w w2 w5 : World} {g : Nat} {pv pvn v5 : Value} {L : List (List ByteArray)} {p : List ByteArray} {xs : List Value} {t : TypeId} {n5 : Nat} (hR : Rd w g pv L) (hb2 : Below w.heap.size w w2) (hp : w2.ownsRow w.heap.size 9 1 pvn p.length (txtV p))
  (hxs : ∀ i (hi : i < L.length), ∃ v, xs[i]? = some v ∧ w.ownsRow 0 9 1 v L[i].length (txtV L[i])) (hx : xs.length = L.length)
  (ho3 : (w2.alloc (.cells #[pvn] t)).ownsRow (g + 1) 42 1 pv L.length xs) (hown5 : w5.ownsRow (g + 1) 42 1 v5 n5 (xs ++ [pvn])) (hn5 : n5 = L.length + 1) (hl : Lies (w2.alloc (.cells #[pvn] t)) w5 pv v5) :
  Rd (w5.setCell ⟨g, 0, none⟩ v5) g v5 (L ++ [p]) ∧ RM (RF g pv) w (w5.setCell ⟨g, 0, none⟩ v5) ∧ Mvd w pv v5 ∧ (w5.setCell ⟨g, 0, none⟩ v5).ownsRow w.heap.size 9 1 pvn p.length (txtV p) := by
 subst hn5
 have hb3 : Below w2.heap.size w2 (w2.alloc (.cells #[pvn] t)) := (Below.refl _ _).alloc (Nat.le_refl _) _
 have hgr := (Wrote.of_lies hl).1
 have hs2 := hb2.size
 have hs3 := hb3.size
 have hs5 := hgr.size
 have hglt := hR.lt
 have hR3 : Rd (w2.alloc (.cells #[pvn] t)) g pv L := (hR.below hb2).below hb3
 have hg5 : w5.heap[g]? = some (.cells #[pv] 59 (0, 0)) := (hgr.block g (by omega) (fun e => by have := owns_block ho3 e.symm; omega)).trans hR3.blk
 have hset : ∀ k, k ≠ g → (w5.setCell ⟨g, 0, none⟩ v5).heap[k]? = w5.heap[k]? := fun k hk => Below.heap_setCell _ _ _ _ hk
 have hrm : RM (RF g pv) w (w5.setCell ⟨g, 0, none⟩ v5) := by
  refine ⟨hgr.os.trans (hb3.os.trans hb2.os), hgr.tape.trans (hb3.tape.trans hb2.tape), hgr.output.trans (hb3.output.trans hb2.output), ?_, fun k hk hn => ?_⟩
  ·show w.heap.size ≤ (w5.heap.modify _ _).size
   rw [Array.size_modify]; omega
  ·rw [hset k (fun e => hn (.inl e)), hgr.block k (by omega) (fun e => hn (.inr e.symm)), hb3.block k (by omega), hb2.block k hk]
 have hmv : Mvd w pv v5 := by
  rcases (Wrote.of_lies hl).2 with e | ⟨b, e, h⟩
  ·exact .inl e
  ·exact .inr ⟨b, e, by omega⟩
 -- rows of texts are not written
 have hstr : ∀ {base n : Nat} {v : Value} {ys : List Value}, (w2.alloc (.cells #[pvn] t)).ownsRow base 9 1 v n ys → (w5.setCell ⟨g, 0, none⟩ v5).ownsRow base 9 1 v n ys := by
  intro base n v ys h
  refine owns_same h fun k hk => ?_
  obtain ⟨c, hc⟩ := owns_type h hk
  have hne : ¬ RF g pv k := fun e => hR3.notStr e c hc
  rw [hset k (fun e => hne (.inl e)), hgr.block k (owns_block h hk).2 (fun e => hne (.inr e.symm))]
 have hp6 := hstr (owns_below hp hb3)
 refine ⟨⟨?_, xs ++ [pvn], ?_, fun i hi => ?_⟩, hrm, hmv, hp6⟩
 ·exact heap_setCell_same w5 g 0 _ _ v5 hg5
 ·rw [List.length_append]; exact ownsRow_setCell_below hown5 (Nat.lt_succ_self g) v5
 ·by_cases hi2 : i < L.length
  ·obtain ⟨v, h1, h2⟩ := hxs i hi2
   refine ⟨v, by rw [List.getElem?_append_left (by omega)]; exact h1, ?_⟩
   rw [List.getElem_append_left hi2]
   exact hstr (owns_below (owns_below h2 hb2) hb3)
  ·have : i = L.length := by rw [List.length_append] at hi; simp at hi; omega
   subst this
   refine ⟨pvn, by rw [List.getElem?_append_right (by omega), hx, Nat.sub_self]; rfl, ?_⟩
   have e : (L ++ [p])[L.length] = p := by simp
   rw [e]
   obtain ⟨h1, h2⟩ := hp6
   exact ⟨h1, h2.imp id fun ⟨b, cap, cur, e, _, h⟩ => ⟨b, cap, cur, e, Nat.zero_le _, h⟩⟩
theorem pathsV_text (h : Nat) (x : Val) (hk : x.kind = 5) : pathsV (h + 1) x = if Expr.dollar x.s = true then [(Expr.pathOf x.s).getD []] else [] := by
 rw [pathsV, if_pos hk]
theorem parseV_text (h : Nat) (x : Val) (hk : x.kind = 5) : Expr.parseV (h + 1) x = if Expr.dollar x.s = true then (if (Expr.pathOf x.s).isSome = true then 0 else 15) else 0 := by
 rw [Expr.parseV, if_neg (by rw [hk]; omega), if_pos hk]
theorem etext_any (N C h : Nat) (hN : 16 ≤ N) (W0 w : World) (g : Nat) (pv : Value) (L : List (List ByteArray)) (Q : Nat → Prop) (x : Val) (v : Value) (hk : x.kind = 5) (hG : Ground W0) (hg : W0.heap.size ≤ g) (hb : Below W0.heap.size W0 w) (hR : Rd w g pv L) (hv : VIn W0 Q (h + 1) x v) (hf : FitV x) (hL : L.length ≤ 1000000) :
  Calls Tryz.prog 46 #[.pointer (some ⟨g, 0, none⟩), v] w (RdrPost w g pv L (pathsV (h + 1) x) (Expr.parseV (h + 1) x) (TermGood g w.heap.size (3 * (h + 1)) (evF N C (h + 1) x))) := by
 obtain ⟨i0, hi, hz0, hz1, hz2⟩ := info_parts infoNames
 obtain ⟨ik, im, is_, b0, f0, l0, bb0, bc0, fb0, fc0, lb0, lc0, rfl⟩ := hv.shape
 obtain ⟨e1, -, e3, -, -⟩ := hv.top
 obtain ⟨W1, hW1⟩ : ∃ W, W = w.alloc (.cells #[.int .i64 ik, .int .i64 im, .string is_, .slice b0 bb0 bc0, .slice f0 fb0 fc0, .slice l0 lb0 lc0] 26) := ⟨_, rfl⟩
 obtain ⟨P1, hP1⟩ : ∃ P, P = w.heap.size := ⟨_, rfl⟩
 have hb1 : Below w.heap.size w W1 := by rw [hW1]; exact (Below.refl _ _).alloc (Nat.le_refl _) _
 have hX1 : IsBox W1 P1 (.int .i64 ik) (.int .i64 im) (.string is_) (.slice b0 bb0 bc0) (.slice f0 fb0 fc0) (.slice l0 lb0 lc0) := by rw [hW1, hP1]; exact IsBox.new w (.int .i64 ik) (.int .i64 im) (.string is_) (.slice b0 bb0 bc0) (.slice f0 fb0 fc0) (.slice l0 lb0 lc0)
 have HV := Lib.hid hv
 have HB := Lib.hid hb
 have HB1 : Hid (Below w.heap.size w W1) := hb1
 have HR := Lib.hid hR
 have HG1 : Hid (Ground W1) := hG.keep (hb.trans (hb1.mono hb.size))
 have CP := Lib.hid (cutDollar_any is_ W1)
 have HS : Hid (is_.size ≤ 4294967280) := by rw [e3]; exact hf.s
 have HW1 := Lib.hid hW1
 have HP1 := Lib.hid hP1
 have HX1 := Lib.hid hX1
 have HGE := Lib.hid hg
 rw [pathsV_text h x hk, parseV_text h x hk]
 have EP := Lib.hid (evF_path N C h x hk)
 have ET := Lib.hid (evF_text N C h x hk)
 rw [← e3] at EP ET ⊢
 cases hd : Expr.dollar is_ with
 | false =>
  rw [hd] at CP
  simp only [Bool.false_eq_true, if_false] at CP ⊢
  have HE := Lib.hid (ET.out hd)
  clear hv hb hR hG hf e1 e3 hW1 hP1 hX1 hb1 hg hk ET EP hd
  go_enter Tryz.func46, Tryz.ntmps46
  go_upto_region 1 with fail
  rw [← HW1.out, ← HP1.out]
  obtain ⟨x0, x1, x2, x3, x4, x5⟩ := HX1.out.cells
  go_wp2_with fail
  refine CP.out.mono ?_
  rintro e w2 ⟨rfl, hb2⟩
  have HB2 : Hid (Below w.heap.size w w2) := HB1.out.trans (hb2.mono HB1.out.size)
  have HX2 := Lib.hid (HX1.out.keep hb2)
  clear x0 x1 x2 x3 x4 x5 hb2 CP
  obtain ⟨x0, x1, x2, x3, x4, x5⟩ := HX2.out.cells
  go_wp2_with fail
  refine bodyPost_ret (v := .tuple #[.iface 95 (.agg #[.int .i64 ik, .int .i64 im, .string is_, .slice b0 bb0 bc0, .slice f0 fb0 fc0, .slice l0 lb0 lc0]), .int .i64 0]) ?_ rfl ?_
  ·simp [results, Tryz.results46, go_sem, *]
  ·refine ⟨_, pv, L, rfl, RM.of_below HB2.out, Mvd.refl _ _, HR.out.below HB2.out, fun _ => ⟨by simp, fun W hW => ?_⟩⟩
   rw [HE.out]
   have hbW : Below W0.heap.size W0 W := (HB.out.trans (HB2.out.mono HB.out.size)).trans (hW.below (Nat.le_trans HB.out.size HB2.out.size) (fun k e => by rcases e with e | e; exact Nat.le_trans HGE.out e.1; exact Nat.le_trans HGE.out (Nat.le_of_lt (HR.out.block e).1)))
   exact (ev_const W h Q x _ (VIn.keep hbW HV.out)).up (by omega)
 | true =>
  rw [hd] at CP
  simp only [if_true] at CP ⊢
  have hpe : Expr.pathOf is_ = (Path.parse (is_.extract 1 is_.size).data.toList).map Path.names := by rw [cut_list]; rfl
  have hss : (is_.extract 1 is_.size).size ≤ 4294967280 := by
   have := HS.out
   rw [ByteArray.size_extract]; omega
  have HE := Lib.hid (EP.out hd)
  obtain ⟨po, hpo⟩ : ∃ z, z = Expr.pathOf is_ := ⟨_, rfl⟩
  rw [← hpo] at HE hpe ⊢
  obtain ⟨code, hcode⟩ : ∃ z : Int, z = (if po.isSome = true then 0 else 15) := ⟨_, rfl⟩
  rw [← hcode]
  have HCO := Lib.hid hcode
  clear hcode
  generalize is_.extract 1 is_.size = cs at CP hpe hss
  have CPA : Hid (∀ W, Below W1.heap.size W1 W → Calls Tryz.prog 62 #[.string cs] W (ParseOwnP cs.data.toList W)) := fun W hW => ParseOwn_any cs W hss (HG1.out.keep hW)
  have HPE := Lib.hid hpe
  clear hv hb hR hG hf e1 e3 hW1 hP1 hX1 hb1 hg hk ET EP hd hpo hpe hss
  go_enter Tryz.func46, Tryz.ntmps46
  go_upto_region 1 with fail
  rw [← HW1.out, ← HP1.out]
  obtain ⟨x0, x1, x2, x3, x4, x5⟩ := HX1.out.cells
  go_wp2_with fail
  refine CP.out.mono ?_
  rintro e w2 ⟨rfl, hb2⟩
  have HB2 : Hid (Below w.heap.size w w2) := HB1.out.trans (hb2.mono HB1.out.size)
  have CPB := Lib.hid (CPA.out w2 hb2)
  clear x0 x1 x2 x3 x4 x5 hb2 CP CPA
  go_wp2_with fail
  refine CPB.out.mono ?_
  rintro e w3 ⟨nv, ok, rfl, hb3, hsome, hnone⟩
  have HB3 : Hid (Below w.heap.size w w3) := HB2.out.trans (hb3.mono HB2.out.size)
  cases hp : Path.parse cs.data.toList with
  | none =>
   obtain ⟨rfl, rfl⟩ := hnone hp
   rw [hp] at HPE
   have HPO : Hid (po = none) := HPE.out
   clear hsome hnone hb3 CPB hp
   go_wp2_with fail
   refine bodyPost_ret (v := .tuple #[.nilIface, .int .i64 15]) ?_ rfl ?_
   ·simp [results, Tryz.results46, go_sem, *]
   ·refine ⟨_, pv, L, by rw [HCO.out, HPO.out]; rfl, RM.of_below HB3.out, Mvd.refl _ _, HR.out.below HB3.out, fun e => ?_⟩
    rw [HCO.out, HPO.out] at e; cases e
  | some p =>
   obtain ⟨rfl, hown⟩ := hsome p hp
   rw [hp] at HPE
   have HPO : Hid (po = some (Path.names p)) := HPE.out
   have HLEN : Hid ((Path.names p).length ≤ 16) := by show _ ≤ _; rw [Path.names_length]; exact parse_len hp
   have hown2 : w3.ownsRow w.heap.size 9 1 nv (Path.names p).length (txtV (Path.names p)) := by
    rw [Path.strs_names, ← Path.names_length] at hown
    obtain ⟨h1, h2⟩ := hown
    exact ⟨h1, h2.imp id fun ⟨b, cap, cur, e, h3, h⟩ => ⟨b, cap, cur, e, Nat.le_trans HB2.out.size h3, h⟩⟩
   obtain ⟨na, nc, hnv⟩ := owns_shape hown2
   obtain ⟨nn, hnn⟩ : ∃ z, z = (Path.names p).length := ⟨_, rfl⟩
   rw [← hnn] at hnv
   subst hnv
   have HOWN := Lib.hid hown2
   clear hnn
   generalize Path.names p = q at HPO HLEN HOWN
   obtain ⟨xs, hox, hxs⟩ := HR.out.own
   obtain ⟨ln, hln⟩ : ∃ z, z = L.length := ⟨_, rfl⟩
   have hb4 : Below w3.heap.size w3 (w3.alloc (.cells #[.slice na nn nc] 42)) := (Below.refl _ _).alloc (Nat.le_refl _) _
   have hO4 : (w3.alloc (.cells #[.slice na nn nc] 42)).ownsRow (g + 1) 42 1 pv L.length xs := owns_below (owns_below hox HB3.out) hb4
   have HO4' := Lib.hid hO4
   rw [← hln] at hO4
   have HO4 := Lib.hid hO4
   have HXS := Lib.hid hxs
   have HXL : Hid (xs.length = L.length) := by have := hox.1; show _ = _; omega
   have HNW := Lib.hid (one_new w3 (.slice na nn nc) 42)
   have hS4 : g + 1 ≤ (w3.alloc (.cells #[.slice na nn nc] 42)).heap.size := Nat.le_trans HR.out.lt (Nat.le_trans HB3.out.size hb4.size)
   have HS4 := Lib.hid hS4
   have HLN : Hid (ln = L.length) := hln
   have hlm : ln ≤ 1000000 := by omega
   have c0 : w3.cell? ⟨g, 0, none⟩ = some pv := (HR.out.below HB3.out).cell
   clear hsome hnone hb3 CPB hp hown hown2 hox hxs hb4 hO4 hS4 hln hL
   go_wp2_with (at_builtin; refine wpList_append_sz _ rfl (.tmp 31) (.tmp 33) 52 rfl (g + 1) 42 i0 (.slice none 0 0) 1 24 Tryz.underlying52 hi hz0 hz1 hz2 rfl pv ln xs rfl HO4.out ⟨w3.heap.size, 0, none⟩ 1 1 [.slice na nn nc] rfl rfl (by decide) (by decide) HNW.out (by intro u hu; rw [List.mem_singleton.1 hu]; rfl) (by unfold maxLen; omega) (by omega) HS4.out ?_)
   intro v5 w5 hown5 hlies5
   obtain ⟨va, vc, rfl⟩ := owns_shape hown5
   obtain ⟨hR6, hM6, hV6, hp6⟩ := HR.out.push HB3.out HOWN.out HXS.out HXL.out HO4'.out hown5 (by rw [HLN.out]) hlies5
   have hgr := (Wrote.of_lies hlies5).1
   have hR4 := (HR.out.below HB3.out).below ((Below.refl _ _).alloc (Nat.le_refl _) (.cells #[.slice na nn nc] 42))
   have hg5 : w5.heap[g]? = some (.cells #[pv] 59 (0, 0)) := (hgr.block g hR4.lt (fun e => by have := owns_block HO4.out e.symm; omega)).trans hR4.blk
   have c5 : w5.cell? ⟨g, 0, none⟩ = some pv := (cell_of_row w5 g 0 _ _ _ hg5).trans rfl
   have q5 : w5.frozen? ⟨g, 0, none⟩ = false := frozen_of_row w5 g 0 _ _ hg5
   have HR6 := Lib.hid hR6
   have HM6 := Lib.hid hM6
   have HV6 := Lib.hid hV6
   have HP6 := Lib.hid hp6
   clear hown5 hlies5 hR6 hM6 hV6 hp6 hgr hR4 hg5 c0
   go_wp2_with fail
   refine bodyPost_ret (v := .tuple #[.iface 106 (.slice na nn nc), .int .i64 0]) ?_ rfl ?_
   ·simp [results, Tryz.results46, go_sem, *]
   ·refine ⟨_, _, L ++ [q], by rw [HCO.out, HPO.out]; rfl, HM6.out, HV6.out, HR6.out, fun _ => ⟨by rw [HPO.out]; rfl, fun W hW => ?_⟩⟩
    rw [HE.out, HPO.out]
    have hoW : W.ownsRow w.heap.size 9 1 (.slice na nn nc) q.length (txtV q) := by
     refine owns_same HP6.out fun k hk => hW.block k (owns_block HP6.out hk).2 ?_
     rintro (e | e)
     ·have := (owns_block HP6.out hk).1; omega
     ·obtain ⟨c, hc⟩ := owns_type HP6.out hk
      exact HR6.out.notStr (.inr e) c hc
    obtain ⟨a, c, e, hc, hst⟩ := owns_strs hoW
    rw [e]
    exact (ev_reach W N q a q.length c (Nat.le_trans HLEN.out hN) rfl hc.1 hst).up (by omega)
theorem infoPart : (Tryz.prog.info? 120).map (fun i => (i.zero, i.size, i.bytes)) = some (some (.agg #[.string ⟨#[]⟩, .nilIface]), 2, 32) := by kernel_rfl
def PRow (w : World) (g B H : Nat) (pv rv : Value) (k : Nat) (ps : List (ByteArray × (Nat → Val → Expr.Out))) (xs : List Value) : Prop :=
 w.ownsRow B 120 2 rv k xs ∧ ∀ i (hi : i < k) (hi2 : i < ps.length), xs[i * 2]? = some (.string ps[i].1) ∧ ps[i].1.size ≤ 140737488355328 ∧ ∃ t, xs[i * 2 + 1]? = some t ∧ EvF (LF g B pv rv) w t H ps[i].2
theorem PRow.good {w : World} {g B H : Nat} {pv rv : Value} {k : Nat} {ps : List (ByteArray × (Nat → Val → Expr.Out))} {xs : List Value} {L : List (List ByteArray)} (h : PRow w g B H pv rv k ps xs) (hR : Rd w g pv L) (hB : g < B) (hk : ps.length = k) :
  ∃ a c, rv = .slice a ps.length c ∧ ps.length ≤ c ∧ c ≤ 9223372036854775807 ∧ ∀ W, RM (TF g B pv) w W → PartsIn W a H ps := by
 subst hk
 obtain ⟨ho, hall⟩ := h
 rcases id ho with ⟨hxl, ⟨rfl, hn⟩ | ⟨b, cap, cur, rfl, hb, hrow, hc, hm, hsz, htake⟩⟩
 ·have := List.eq_nil_of_length_eq_zero hn
  subst this
  exact ⟨none, 0, rfl, Nat.le_refl _, by omega, fun _ _ => .inl rfl⟩
 ·have hap : ¬ RF g pv b := hR.apart hB (by decide) ho rfl
  refine ⟨_, cap, rfl, hc, by unfold maxLen at hm; omega, fun W hW => .inr ⟨b, 0, rfl, fun i hi => ?_⟩⟩
  obtain ⟨h0, hs, t, h1, h2⟩ := hall i hi hi
  have cell : ∀ j v, j < ps.length * 2 → xs[j]? = some v → W.cell? ⟨b, j, none⟩ = some v := fun j v hj hv => by
   refine hW.cell ?_ (by
    rintro (⟨_, e3⟩ | e3)
    ·omega
    ·exact hap (.inr e3))
   rw [cell_of_row w b j _ _ _ hrow, ← Array.getElem?_toList]
   have e2 : cur.toList[j]? = xs[j]? := by rw [← htake, List.getElem?_take_of_lt (by omega)]
   rw [e2, hv]
  refine ⟨?_, hs, t, ?_, h2 W (hW.mono fun _ _ e => .inl e)⟩
  ·rw [Nat.zero_add]; exact cell _ _ (by omega) h0
  ·rw [Nat.zero_add]; exact cell _ _ (by omega) h1
theorem two_new (w : World) (c d : Value) (t : TypeId) : ∀ j u, ([c, d] : List Value)[j]? = some u → (w.alloc (.cells #[c, d] t)).cell? (Addr.add ⟨w.heap.size, 0, none⟩ j) = some u := by
 intro j u hj
 rw [Addr.add_mid, Nat.zero_add, cell_of_row _ _ j _ _ _ (heap_alloc_new w _)]
 simpa using hj
theorem rdocument_any (N C h : Nat) (IH : TermDo N C h) (W0 w : World) (g : Nat) (pv : Value) (L : List (List ByteArray)) (Q : Nat → Prop) (a : Option Addr) (n c : Nat) (l : List (ByteArray × Val)) (hG : Ground W0) (hg : W0.heap.size ≤ g) (hb : Below W0.heap.size W0 w) (hR : Rd w g pv L) (hn : l.length = n) (hlim : n ≤ 256) (hF : ∀ p ∈ l, FitV p.2)
  (hI : FieldsIn W0 Q (VIn W0 Q h) a l) (hL : L.length + (l.map fun p => pathsV h p.2).flatten.length ≤ 1000000) :
  Calls Tryz.prog 65 #[.pointer (some ⟨g, 0, none⟩), .slice a n c] w (RdrPost w g pv L (l.map fun p => pathsV h p.2).flatten (Expr.parseAll (Expr.parseV h) (l.map (·.2))) (TermGood g w.heap.size (3 * h + 1) (fun hd d => Expr.docO (Expr.docFO (partsOf (l.map fun p => (p.1, evF N C h p.2)) hd d))))) := by
 obtain ⟨i0, hi, hz0, hz1, hz2⟩ := info_parts infoPart
 have HR := Lib.hid hR
 have HI := Lib.hid hI
 have HB := Lib.hid hb
 have HN := Lib.hid hn
 have HF := Lib.hid hF
 have HL := Lib.hid hL
 have HG := Lib.hid hG
 have HGE := Lib.hid hg
 have HGW : Hid (g < w.heap.size) := hR.lt
 have HIH : Hid (TermDo N C h) := IH
 obtain ⟨code, hcode⟩ : ∃ z, z = Expr.parseAll (Expr.parseV h) (l.map (·.2)) := ⟨_, rfl⟩
 obtain ⟨P, hP⟩ : ∃ z, z = (l.map fun p => pathsV h p.2).flatten := ⟨_, rfl⟩
 rw [← hcode, ← hP]
 have HC := Lib.hid hcode
 have HP := Lib.hid hP
 clear hR hI hb hn hF hL hG hg IH hcode hP
 go_enter Tryz.func65, Tryz.ntmps65
 go_wp2_with fail
 go_loopw [6, 13] (fun rv i wr => ∃ (k : Nat) (pvk : Value) (xs : List Value), k ≤ n ∧ i = .int .i64 k ∧ Hid (∀ i (hi : i < k) (hi2 : i < l.length), Expr.parseV h l[i].2 = 0) ∧ Hid (Rd wr g pvk (L ++ ((l.take k).map fun p => pathsV h p.2).flatten)) ∧ Hid (RM (RF g pv) w wr) ∧ Hid (Mvd w pv pvk) ∧ Hid (PRow wr g w.heap.size (3 * h) pvk rv k (l.map fun p => (p.1, evF N C h p.2)) xs)) (fun _ i _ => n - (intOf i).toNat)
 case atStart => exact ⟨0, pv, [], Nat.zero_le _, rfl, fun _ h => absurd h (Nat.not_lt_zero _), by show Rd _ _ _ _; have := HR.out; simpa using this, RM.refl _ _, Mvd.refl _ _, World.ownsRow_nil _ _ _ _, fun i hi => absurd hi (Nat.not_lt_zero _)⟩
 case round =>
  obtain ⟨k, pvk, xs, hk, rfl, HOK, HRK, HM, HV, HT⟩ := hrel
  by_cases hlt : k < n
  ·have hkl : k < l.length := by rw [HN.out]; exact hlt
   obtain ⟨g0, o0, rfl, hq0, hall⟩ := HI.out.resolve_left (fun e => by rw [e] at hkl; cases hkl)
   obtain ⟨hnm, hnl, v1, hsix, hV⟩ := hall k hkl
   obtain ⟨ik, im, is_, b0, f0, l0, bb0, bc0, fb0, fc0, lb0, lc0, rfl⟩ := hV.shape
   have hBr : Below W0.heap.size W0 wr := HB.out.trans (HM.out.below HB.out.size (fun b e => Nat.le_trans HGE.out (HR.out.ge e).1))
   obtain ⟨s0, s1, s2, s3, s4, s5⟩ := (hsix.keep hBr).cells
   have sn := cell_keep hBr hnm
   obtain ⟨nm, hnme⟩ : ∃ z, z = l[k].1 := ⟨_, rfl⟩
   rw [← hnme] at sn hnl
   have HNM := Lib.hid hnme
   obtain ⟨W5, hW5⟩ : ∃ W5, W5 = wr.alloc (.cells #[.string nm, .int .i64 ik, .int .i64 im, .string is_, .slice b0 bb0 bc0, .slice f0 fb0 fc0, .slice l0 lb0 lc0] 40) := ⟨_, rfl⟩
   obtain ⟨PB, hPB⟩ : ∃ P, P = wr.heap.size := ⟨_, rfl⟩
   have hb5 : Below wr.heap.size wr W5 := by rw [hW5]; exact (Below.refl _ _).alloc (Nat.le_refl _) _
   have hX5 : W5.heap[PB]? = some (.cells #[.string nm, .int .i64 ik, .int .i64 im, .string is_, .slice b0 bb0 bc0, .slice f0 fb0 fc0, .slice l0 lb0 lc0] 40 (0, 0)) := by rw [hW5, hPB]; exact heap_alloc_new wr _
   have hBW : Below W0.heap.size W0 W5 := hBr.trans (hb5.mono hBr.size)
   have hlen : (L ++ ((l.take k).map fun p => pathsV h p.2).flatten).length + (pathsV h l[k].2).length ≤ 1000000 := by
    have h1 := flatP_le (fun p : ByteArray × Val => pathsV h p.2) l (k + 1)
    rw [flatP_snoc (fun p : ByteArray × Val => pathsV h p.2) l k hkl, List.length_append] at h1
    have := HL.out
    rw [List.length_append]; omega
   have CK := Lib.hid (HIH.out W0 W5 g pvk _ Q l[k].2 _ HG.out HGE.out hBW (HRK.out.below hb5) hV (HF.out _ (List.getElem_mem hkl)) hlen)
   obtain ⟨ck, hck⟩ : ∃ z, z = Expr.parseV h l[k].2 := ⟨_, rfl⟩
   rw [← hck] at CK
   have HCK := Lib.hid hck
   have HW5 := Lib.hid hW5
   have HPB := Lib.hid hPB
   have HX5 := Lib.hid hX5
   have HB5 : Hid (Below wr.heap.size wr W5) := hb5
   have HR5 := Lib.hid (HRK.out.below hb5)
   have HNL := Lib.hid hnl
   clear hall hsix hV hnm hnl hnme hBr hb5 hX5 hW5 hPB hck hlen hBW
   go_upto_region 5 with fail
   rw [← HW5.out, ← HPB.out]
   clear s0 s1 s2 s3 s4 s5 sn
   have y1 := (cell_of_row W5 PB 1 _ _ _ HX5.out).trans rfl
   have y2 := (cell_of_row W5 PB 2 _ _ _ HX5.out).trans rfl
   have y3 := (cell_of_row W5 PB 3 _ _ _ HX5.out).trans rfl
   have y4 := (cell_of_row W5 PB 4 _ _ _ HX5.out).trans rfl
   have y5 := (cell_of_row W5 PB 5 _ _ _ HX5.out).trans rfl
   have y6 := (cell_of_row W5 PB 6 _ _ _ HX5.out).trans rfl
   go_wp2_with fail
   refine CK.out.mono ?_
   rintro e w2 ⟨t, pv2, L2, rfl, hm2, hv2, hR2, hgood⟩
   have HM2 : Hid (RM (RF g pvk) wr w2) := (RM.of_below (F := RF g pvk) HB5.out).trans hm2 (fun _ _ e => e)
   have HV2 : Hid (Mvd wr pvk pv2) := by
    rcases hv2 with e | ⟨b, e, h1⟩
    ·exact .inl e
    ·exact .inr ⟨b, e, Nat.le_trans HB5.out.size h1⟩
   have HR2 := Lib.hid hR2
   have HGD : Hid (ck = 0 → L2 = L ++ ((l.take k).map fun p => pathsV h p.2).flatten ++ pathsV h l[k].2 ∧ TermGood g W5.heap.size (3 * h) (evF N C h l[k].2) w2 pv2 t) := hgood
   have k0 : w2.cell? ⟨PB, 0, none⟩ = some (.string nm) := hm2.cell ((cell_of_row W5 PB 0 _ _ _ HX5.out).trans rfl) (by
    rintro (e | e)
    ·have := HRK.out.lt; have := HPB.out; omega
    ·have := (HRK.out.block e).2; have := HPB.out; omega)
   clear hm2 hv2 hR2 hgood CK y1 y2 y3 y4 y5 y6
   by_cases hz : ck = 0
   ·subst hz
    obtain ⟨hL2, htg⟩ := HGD.out rfl
    obtain ⟨TT, TK, tv, rfl, -⟩ := htg.ev
    obtain ⟨t, ht⟩ : ∃ t, t = Value.iface TT tv := ⟨_, rfl⟩
    rw [← ht] at htg
    have HTT := Lib.hid ht
    have HTG : Hid (EvF (TF g W5.heap.size pv2) w2 t (3 * h) (evF N C h l[k].2)) := htg
    have HL2 : Hid (L2 = L ++ ((l.take (k + 1)).map fun p => pathsV h p.2).flatten) := by show _ = _; rw [hL2, flatP_snoc (fun p : ByteArray × Val => pathsV h p.2) l k hkl, List.append_assoc]
    have HOK2 : Hid (∀ i (hi : i < k + 1) (hi2 : i < l.length), Expr.parseV h l[i].2 = 0) := fun i hi hi2 => by
     by_cases e : i = k
     ·subst e; exact HCK.out.symm
     ·exact HOK.out i (by omega) hi2
    have hb6 : Below w2.heap.size w2 (w2.alloc (.cells #[.string nm, .iface TT tv] 120)) := (Below.refl _ _).alloc (Nat.le_refl _) _
    have hap := fun b e => HRK.out.apart HGW.out (by decide) HT.out.1 (b := b) e
    have hO2 : w2.ownsRow w.heap.size 120 2 u6 k xs := owns_same HT.out.1 (fun b e => HM2.out.block b (owns_block HT.out.1 e).2 (hap b e))
    have HO6 := Lib.hid (owns_below hO2 hb6)
    have HB6 := Lib.hid hb6
    have HS6 : Hid (w.heap.size ≤ (w2.alloc (.cells #[.string nm, .iface TT tv] 120)).heap.size) := Nat.le_trans HM.out.size (Nat.le_trans HM2.out.size hb6.size)
    have HNW := Lib.hid (two_new w2 (.string nm) (.iface TT tv) 120)
    clear hL2 htg hb6 hap hO2 ht HGD
    go_wp2_with (at_builtin; refine wpList_append_sz _ rfl (.tmp 27) (.tmp 32) 118 rfl w.heap.size 120 i0 (.agg #[.string ⟨#[]⟩, .nilIface]) 2 32 Tryz.underlying118 hi hz0 hz1 hz2 rfl u6 k xs rfl HO6.out ⟨w2.heap.size, 0, none⟩ 1 1 [.string nm, .iface TT tv] rfl rfl (by decide) (by decide) HNW.out (by intro u hu; simp at hu; rcases hu with rfl | rfl <;> rfl) (by unfold maxLen; omega) (by omega) HS6.out ?_)
    intro v9 w9 hown9 hlies9
    have HM9 : Hid (RM (RF g pv) w w9) := loop_rm HM.out HV.out HM2.out HB6.out HO6.out hlies9
    have HR9 : Hid (Rd w9 g pv2 L2) := loop_rd HR2.out HGW.out (by decide) (by decide) HB6.out HO6.out hlies9
    have HV9 : Hid (Mvd w pv pv2) := HV.out.trans HV2.out HM.out.size
    have HT9 : Hid (PRow w9 g w.heap.size (3 * h) pv2 v9 (k + 1) (l.map fun p => (p.1, evF N C h p.2)) (xs ++ [.string nm, t])) := by
     have hx : xs.length = k * 2 := HT.out.1.1
     refine ⟨by rw [HTT.out]; exact hown9, fun i hi hi2 => ?_⟩
     by_cases e : i = k
     ·subst e
      refine ⟨?_, ?_, t, ?_, ?_⟩
      ·rw [List.getElem?_append_right (by omega), hx, Nat.sub_self, List.getElem_map, HNM.out]; rfl
      ·rw [List.getElem_map]; show l[i].1.size ≤ _; rw [← HNM.out]; exact HNL.out
      ·rw [List.getElem?_append_right (by omega), hx, show i * 2 + 1 - i * 2 = 1 by omega]; rfl
      ·rw [List.getElem_map]
       exact loop_new HGW.out HM.out.size HB5.out.size HM2.out.size HB6.out HT.out.1 hlies9 HTG.out
     ·obtain ⟨h0, hs, t', h1, h2⟩ := HT.out.2 i (by omega) hi2
      refine ⟨?_, hs, t', ?_, loop_old HGW.out HRK.out HM2.out HV2.out HB6.out hlies9 h2⟩
      ·rw [List.getElem?_append_left (by omega)]; exact h0
      ·rw [List.getElem?_append_left (by omega)]; exact h1
    have HR9' : Hid (Rd w9 g pv2 (L ++ ((l.take (k + 1)).map fun p => pathsV h p.2).flatten)) := by have := HR9.out; rw [HL2.out] at this; exact this
    clear hown9 hlies9
    go_wp2_with fail
    go_roundw
    case rel => exact ⟨k + 1, pv2, _, by omega, by go_num, HOK2.out, HR9'.out, HM9.out, HV9.out, HT9.out⟩
    case measure => simp [intOf]; omega
   ·have hz2 : (ck == 0) = false := by rw [beq_eq_false_iff_ne]; exact hz
    have hz3 : (ck != 0) = true := by unfold bne; rw [hz2]; rfl
    have hres : code = ck := by
     rw [HC.out, Expr.parseAll_bad (l := l.map (·.2)) (k := k) (by rw [List.length_map]; exact hkl) (fun i hi => by rw [List.getElem_map]; exact HOK.out i hi (by omega)) (by rw [List.getElem_map, ← HCK.out]; exact hz), List.getElem_map, ← HCK.out]
    have HRES := Lib.hid hres
    have HZ := Lib.hid hz
    clear hz hres
    go_wp2_with fail
    refine bodyPost_ret (v := .tuple #[.nilIface, .int .i64 ck]) ?_ rfl ?_
    ·simp [results, Tryz.results65, go_sem, *]
    ·exact ⟨_, pv2, L2, by rw [HRES.out], HM.out.next HV.out HM2.out, HV.out.trans HV2.out HM.out.size, HR2.out, fun e => absurd (HRES.out ▸ e) HZ.out⟩
  ·obtain rfl : k = n := by omega
   have htk : l.take k = l := List.take_of_length_le (by rw [HN.out]; exact Nat.le_refl _)
   have hres : code = 0 := by
    rw [HC.out]
    exact Expr.parseAll_ok fun y hy => by
     obtain ⟨i, hi, rfl⟩ := List.getElem_of_mem hy
     rw [List.length_map] at hi
     rw [List.getElem_map]
     exact HOK.out i (by rw [← HN.out]; exact hi) hi
   have hR := HRK.out
   rw [htk, ← HP.out] at hR
   have HRF := Lib.hid hR
   obtain ⟨ra, rc, hrv, hrc, hrm, hgd⟩ := PRow.good HT.out HRK.out HGW.out (by rw [List.length_map]; exact HN.out)
   rw [List.length_map, HN.out] at hrv
   rw [List.length_map, HN.out] at hrc
   have HGOOD : Hid (TermGood g w.heap.size (3 * h + 1) (fun hd d => Expr.docO (Expr.docFO (partsOf (l.map fun p => (p.1, evF N C h p.2)) hd d))) wr pvk (.iface 118 (.slice ra k rc))) := fun W hW => ev_doc W (3 * h) ra k rc _ (by rw [List.length_map]; exact HN.out) (by omega) (hgd W hW)
   have HRES := Lib.hid hres
   subst hrv
   clear htk hres hR hgd
   go_wp2_with fail
   refine bodyPost_ret (v := .tuple #[.iface 118 (.slice ra k rc), .int .i64 0]) ?_ rfl ?_
   ·simp [results, Tryz.results65, go_sem, *]
   ·exact ⟨_, pvk, _, by rw [HRES.out], HM.out, HV.out, HRF.out, fun _ => ⟨rfl, HGOOD.out⟩⟩
theorem pathsV_op (h : Nat) (x y : Val) (s : ByteArray) (hk : x.kind = 6) (hf : x.f = [(s, y)]) (hs : Expr.dollar s = true) : pathsV (h + 1) x = if s = Expr.literal then [] else ((Expr.args y).map (pathsV h)).flatten := by
 rw [pathsV, if_neg (by rw [hk]; decide), if_neg (by rw [hk]; decide), if_pos hk, hf, if_pos (by simp [hs])]
theorem parseV_op (h : Nat) (x y : Val) (s : ByteArray) (hk : x.kind = 6) (hf : x.f = [(s, y)]) (hs : Expr.dollar s = true) : Expr.parseV (h + 1) x = if s = Expr.literal then 0 else match Expr.opOf s with | some o => if Expr.fits o (Expr.args y).length = true then Expr.parseAll (Expr.parseV h) (Expr.args y) else 13 | none => 13 := by
 rw [Expr.parseV, if_neg (by rw [hk]; omega), if_neg (by rw [hk]; decide), if_neg (by rw [hk]; decide), if_pos hk, hf, if_pos (by simp [hs])]
 rfl
theorem func_nil (u : World) : Sem.run Tryz.prog (binOp .eql 122 Value.nilFunc Value.nilFunc) u = .ok (.bool true) u := by kernel_rfl
theorem func_some (K : FuncId) (u : World) : Sem.run Tryz.prog (binOp .eql 122 (Value.func (Fn.func K) #[] #[]) Value.nilFunc) u = .ok (.bool false) u := by kernel_rfl
theorem roper_any (N C h : Nat) (hC : 3 * (h + 1) ≤ C) (IH : TermDo N C h) (W0 w : World) (g : Nat) (pv : Value) (L : List (List ByteArray)) (Q : Nat → Prop) (x y : Val) (s : ByteArray) (v : Value) (hk : x.kind = 6) (hxf : x.f = [(s, y)]) (hs : Expr.dollar s = true) (hG : Ground W0) (hg : W0.heap.size ≤ g) (hb : Below W0.heap.size W0 w) (hR : Rd w g pv L) (hv : VIn W0 Q h y v) (hf : FitV y) (hL : L.length + (pathsV (h + 1) x).length ≤ 1000000) :
  Calls Tryz.prog 66 #[.pointer (some ⟨g, 0, none⟩), .string s, v] w (RdrPost w g pv L (pathsV (h + 1) x) (Expr.parseV (h + 1) x) (TermGood g w.heap.size (3 * (h + 1)) (evF N C (h + 1) x))) := by
 obtain ⟨ik, im, is_, b0, f0, l0, bb0, bc0, fb0, fc0, lb0, lc0, rfl⟩ := hv.shape
 obtain ⟨W1, hW1⟩ : ∃ W, W = w.alloc (.cells #[.int .i64 ik, .int .i64 im, .string is_, .slice b0 bb0 bc0, .slice f0 fb0 fc0, .slice l0 lb0 lc0] 26) := ⟨_, rfl⟩
 obtain ⟨P1, hP1⟩ : ∃ P, P = w.heap.size := ⟨_, rfl⟩
 have hb1 : Below w.heap.size w W1 := by rw [hW1]; exact (Below.refl _ _).alloc (Nat.le_refl _) _
 have hX1 : IsBox W1 P1 (.int .i64 ik) (.int .i64 im) (.string is_) (.slice b0 bb0 bc0) (.slice f0 fb0 fc0) (.slice l0 lb0 lc0) := by rw [hW1, hP1]; exact IsBox.new w (.int .i64 ik) (.int .i64 im) (.string is_) (.slice b0 bb0 bc0) (.slice f0 fb0 fc0) (.slice l0 lb0 lc0)
 have HV := Lib.hid hv
 have HB := Lib.hid hb
 have HB1 : Hid (Below w.heap.size w W1) := hb1
 have HR := Lib.hid hR
 have HG := Lib.hid hG
 have HW1 := Lib.hid hW1
 have HP1 := Lib.hid hP1
 have HX1 := Lib.hid hX1
 have HGE := Lib.hid hg
 have HF := Lib.hid hf
 have HIH : Hid (TermDo N C h) := IH
 rw [pathsV_op h x y s hk hxf hs] at hL
 rw [pathsV_op h x y s hk hxf hs, parseV_op h x y s hk hxf hs]
 by_cases hl : s = Expr.literal
 ·have HE := Lib.hid (evF_lit N C h x y hk (by rw [hxf, hl]))
  rw [if_pos hl, if_pos hl]
  subst hl
  clear hv hb hR hG hf hW1 hP1 hX1 hb1 hg hk hxf hs hL IH
  unfold Expr.literal
  go_enter Tryz.func66, Tryz.ntmps66
  go_upto_region 1 with fail
  rw [← HW1.out, ← HP1.out]
  obtain ⟨x0, x1, x2, x3, x4, x5⟩ := HX1.out.cells
  go_wp2_with fail
  refine bodyPost_ret (v := .tuple #[.iface 95 (.agg #[.int .i64 ik, .int .i64 im, .string is_, .slice b0 bb0 bc0, .slice f0 fb0 fc0, .slice l0 lb0 lc0]), .int .i64 0]) ?_ rfl ?_
  ·simp [results, Tryz.results66, go_sem, *]
  ·refine ⟨_, pv, L, rfl, RM.of_below HB1.out, Mvd.refl _ _, HR.out.below HB1.out, fun _ => ⟨by simp, fun W hW => ?_⟩⟩
   rw [HE.out]
   have hbW : Below W0.heap.size W0 W := (HB.out.trans (HB1.out.mono HB.out.size)).trans (hW.below (Nat.le_trans HB.out.size HB1.out.size) (fun k e => by rcases e with e | e; exact Nat.le_trans HGE.out e.1; exact Nat.le_trans HGE.out (Nat.le_of_lt (HR.out.block e).1)))
   cases h with
   | zero => exact HV.out.elim
   | succ h => exact (ev_const W h Q y _ (VIn.keep hbW HV.out)).up (by omega)
 ·rw [if_neg hl] at hL
  rw [if_neg hl, if_neg hl]
  have m0 : (s.toList == [36, 108, 105, 116, 101, 114, 97, 108]) = false := by have := str_ne hl; rw [ByteArray.toList_eq Expr.literal] at this; exact this
  have EO := Lib.hid (fun o ho => evF_op N C h x y s o hk hxf hs hl ho)
  have CO := Lib.hid (operatorOf_any s W1)
  obtain ⟨P, hP⟩ : ∃ z, z = ((Expr.args y).map (pathsV h)).flatten := ⟨_, rfl⟩
  rw [← hP]
  have HP := Lib.hid hP
  have HL : Hid (L.length + ((Expr.args y).map (pathsV h)).flatten.length ≤ 1000000) := hL
  clear hv hb hR hG hf hW1 hP1 hX1 hb1 hg hk hxf hs hL IH hl hP
  cases ho : Expr.opOf s with
  | none =>
   rw [ho] at CO
   unfold opVal opMany at CO
   have bn := func_nil
   clear ho EO
   go_enter Tryz.func66, Tryz.ntmps66
   go_upto_region 1 with fail
   rw [← HW1.out, ← HP1.out]
   go_wp2_with fail
   refine CO.out.mono ?_
   rintro e w2 ⟨rfl, hb2⟩
   have HB2 : Hid (Below w.heap.size w w2) := HB1.out.trans (hb2.mono HB1.out.size)
   clear hb2 CO
   go_wp2_with fail
   refine bodyPost_ret (v := .tuple #[.nilIface, .int .i64 13]) ?_ rfl ?_
   ·simp [results, Tryz.results66, go_sem, *]
   ·exact ⟨_, pv, L, rfl, RM.of_below HB2.out, Mvd.refl _ _, HR.out.below HB2.out, fun e => by cases e⟩
  | some o =>
   rw [ho] at CO
   have HE := Lib.hid (EO.out o ho)
   obtain ⟨mm, hmm⟩ : ∃ z, z = opMany (some o) := ⟨_, rfl⟩
   rw [← hmm] at CO
   obtain ⟨KF, hKF⟩ : ∃ z, z = opFn o := ⟨_, rfl⟩
   have hov : opVal (some o) = .func (.func KF) #[] #[] := by rw [hKF]; rfl
   rw [hov] at CO
   have HKF := Lib.hid hKF
   have bn := func_some KF
   have HMM := Lib.hid hmm
   obtain ⟨n, hn⟩ : ∃ z, z = (Expr.args y).length := ⟨_, rfl⟩
   have hcase : (Expr.arity o = none ∧ mm = -1) ∨ (∃ k : Nat, Expr.arity o = some k ∧ mm = (k : Int)) := by
    rw [hmm]
    cases e : Expr.arity o with
    | none => exact .inl ⟨rfl, by simp [opMany, e]⟩
    | some k => exact .inr ⟨k, rfl, by simp [opMany, e]⟩
   obtain ⟨code, hcode⟩ : ∃ z : Int, z = (if Expr.fits o (Expr.args y).length = true then Expr.parseAll (Expr.parseV h) (Expr.args y) else 13) := ⟨_, rfl⟩
   show Calls _ _ _ _ (RdrPost w g pv L P (if Expr.fits o (Expr.args y).length = true then Expr.parseAll (Expr.parseV h) (Expr.args y) else 13) _)
   rw [← hcode]
   rw [← hn] at hcode
   have HCO := Lib.hid hcode
   have HN := Lib.hid hn
   have CA : Hid (∀ W, Below W1.heap.size W1 W → Calls Tryz.prog 80 #[.agg #[.int .i64 ik, .int .i64 im, .string is_, .slice b0 bb0 bc0, .slice f0 fb0 fc0, .slice l0 lb0 lc0]] W fun e w' => ∃ a c, e = .returned (.slice a n c) ∧ (n ≤ c ∧ c ≤ 9223372036854775807) ∧ ItemsIn w' (fun k => k < W0.heap.size ∨ W.heap.size ≤ k) (VIn W0 Q h) a (Expr.args y) ∧ Below W.heap.size W w') := fun W hW => by
    rw [HN.out]
    have hbW := (HB.out.trans (HB1.out.mono HB.out.size)).trans (hW.mono (Nat.le_trans HB.out.size HB1.out.size))
    cases h with
    | zero => exact HV.out.elim
    | succ h => exact args_any W0 W Q h y _ hbW HV.out
   -- the walk as far as the arguments' number
   have hfit : (Expr.fits o n = false ∧ mm ≠ -1 ∧ mm ≠ (n : Int)) ∨ (Expr.fits o n = true ∧ (mm = -1 ∨ mm ≠ -1 ∧ mm = (n : Int))) := by
    unfold Expr.fits
    rcases hcase with ⟨h1, h2⟩ | ⟨k, h1, h2⟩
    ·rw [h1]; exact .inr ⟨rfl, .inl h2⟩
    ·rw [h1]
     by_cases e : n = k
     ·exact .inr ⟨by simp [e], .inr ⟨by omega, by omega⟩⟩
     ·exact .inl ⟨by simp [e], by omega, by omega⟩
   clear ho EO hmm hKF hov hn hcase hcode
   rcases hfit with ⟨hf1, hf2, hf3⟩ | ⟨hf1, hf2⟩
   ·have q1 : (mm == -1) = false := by rw [beq_eq_false_iff_ne]; exact hf2
    have q2 : (mm != -1) = true := by unfold bne; rw [q1]; rfl
    have q3 : (mm == (n : Int)) = false := by rw [beq_eq_false_iff_ne]; exact hf3
    have q4 : (mm != (n : Int)) = true := by unfold bne; rw [q3]; rfl
    have HC13 : Hid (code = 13) := by show _ = _; rw [HCO.out, hf1]; rfl
    clear hf1 hf2 hf3
    go_enter Tryz.func66, Tryz.ntmps66
    go_upto_region 1 with fail
    rw [← HW1.out, ← HP1.out]
    go_wp2_with fail
    refine CO.out.mono ?_
    rintro e w2 ⟨rfl, hb2⟩
    have HB2 : Hid (Below w.heap.size w w2) := HB1.out.trans (hb2.mono HB1.out.size)
    obtain ⟨x0, x1, x2, x3, x4, x5⟩ := (HX1.out.keep hb2).cells
    have CB := Lib.hid (CA.out w2 hb2)
    clear hb2 CO CA
    go_wp2_with fail
    refine CB.out.mono ?_
    rintro e w3 ⟨aa, ac, rfl, -, -, hb3⟩
    have HB3 : Hid (Below w.heap.size w w3) := HB2.out.trans (hb3.mono HB2.out.size)
    clear hb3 CB x0 x1 x2 x3 x4 x5
    go_wp2_with fail
    refine bodyPost_ret (v := .tuple #[.nilIface, .int .i64 13]) ?_ rfl ?_
    ·simp [results, Tryz.results66, go_sem, *]
    ·exact ⟨_, pv, L, by rw [HC13.out], RM.of_below HB3.out, Mvd.refl _ _, HR.out.below HB3.out, fun e => by rw [HC13.out] at e; cases e⟩
   ·have hcp : code = Expr.parseAll (Expr.parseV h) (Expr.args y) := by rw [HCO.out, if_pos hf1]
    have HCP := Lib.hid hcp
    have HFT := Lib.hid hf1
    have CT : Hid (∀ (W2 W3 : World) (aa : Option Addr) (ac : Nat), Below W1.heap.size W1 W2 → Below W2.heap.size W2 W3 → ItemsIn W3 (fun k => k < W0.heap.size ∨ W2.heap.size ≤ k) (VIn W0 Q h) aa (Expr.args y) →
      Calls Tryz.prog 48 #[.pointer (some ⟨g, 0, none⟩), .slice aa n ac] W3 (RdrPost W3 g pv L P code (RowGood g W3.heap.size (3 * h) ((Expr.args y).map (evF N C h))))) := fun W2 W3 aa ac h2 h3 hit => by
     have b2 : Below w.heap.size w W2 := HB1.out.trans (h2.mono HB1.out.size)
     have b3 : Below w.heap.size w W3 := b2.trans (h3.mono b2.size)
     rw [HP.out, HCP.out]
     refine rterms_any N C h HIH.out W0 W3 g pv L Q _ aa n ac (Expr.args y) HG.out HGE.out (HB.out.trans (b3.mono HB.out.size)) (HR.out.below b3) HN.out.symm (by rw [HN.out]; exact HF.out.args.1) HF.out.args.2 hit (fun k hk hr => ?_) HL.out
     have h4 := HR.out.ge hr
     have h5 := b2.size
     have h6 := HGE.out
     omega
    have KEY : ∀ q1 : Bool, (mm != -1) = q1 → (q1 = true → (mm != (n : Int)) = false) → Calls Tryz.prog 66 #[.pointer (some ⟨g, 0, none⟩), .string s, .agg #[.int .i64 ik, .int .i64 im, .string is_, .slice b0 bb0 bc0, .slice f0 fb0 fc0, .slice l0 lb0 lc0]] w (RdrPost w g pv L P code (TermGood g w.heap.size (3 * (h + 1)) (evF N C (h + 1) x))) := by
     intro q1 hq1 hq2
     have HFIN : Hid (∀ (W2 W3 w4 : World) (t pv4 : Value) (L4 : List (List ByteArray)), Below W1.heap.size W1 W2 → Below W2.heap.size W2 W3 → RM (RF g pv) W3 w4 → Mvd W3 pv pv4 → Rd w4 g pv4 L4 → (code = 0 → L4 = L ++ P ∧ RowGood g W3.heap.size (3 * h) ((Expr.args y).map (evF N C h)) w4 pv4 t) →
       RM (RF g pv) w w4 ∧ Mvd w pv pv4 ∧ (code = 0 → ∃ ta tc, t = .slice ta n tc ∧ TermGood g w.heap.size (3 * (h + 1)) (evF N C (h + 1) x) w4 pv4 (.iface 126 (.agg #[.func (.func KF) #[] #[], .slice ta n tc])))) := fun W2 W3 w4 t pv4 L4 h2 h3 hm hv hr hgd => by
      have b2 : Below w.heap.size w W2 := HB1.out.trans (h2.mono HB1.out.size)
      have b3 : Below w.heap.size w W3 := b2.trans (h3.mono b2.size)
      refine ⟨(RM.of_below (F := RF g pv) b3).trans hm (fun _ _ e => e), (Mvd.refl w pv).trans (w' := W3) hv b3.size, fun e => ?_⟩
      obtain ⟨-, ta, tc, e1, hc1, hc2, hT⟩ := hgd e
      rw [List.length_map, ← HN.out] at e1
      refine ⟨ta, tc, e1, fun W hW => ?_⟩
      rw [HE.out, HKF.out]
      exact (ev_op o W (3 * h) C ta n tc ((Expr.args y).map (evF N C h)) (by rw [List.length_map]; exact HN.out.symm) (by have := HF.out.args.1; have := HN.out; omega) HFT.out (by omega) (hT W (hW.mono fun k hk e => by
       rcases e with e | e
       ·exact .inl ⟨e.1, by have := b3.size; omega⟩
       ·exact .inr e))).up (by omega)
     clear hf1 hf2 hcp
     cases q1 with
     | false =>
      clear hq2
      have hq0 : (mm == -1) = true := by unfold bne at hq1; cases e : (mm == -1) with | false => rw [e] at hq1; cases hq1 | true => rfl
      go_enter Tryz.func66, Tryz.ntmps66
      go_upto_region 1 with fail
      rw [← HW1.out, ← HP1.out]
      go_wp2_with fail
      refine CO.out.mono ?_
      rintro e w2 ⟨rfl, hb2⟩
      have HB2 : Hid (Below W1.heap.size W1 w2) := hb2
      obtain ⟨x0, x1, x2, x3, x4, x5⟩ := (HX1.out.keep hb2).cells
      have CB := Lib.hid (CA.out w2 hb2)
      clear hb2 CO CA
      go_wp2_with fail
      refine CB.out.mono ?_
      rintro e w3 ⟨aa, ac, rfl, -, hit, hb3⟩
      have HB3 : Hid (Below w2.heap.size w2 w3) := hb3
      have CT2 := Lib.hid (CT.out w2 w3 aa ac HB2.out hb3 hit)
      clear hb3 CB x0 x1 x2 x3 x4 x5 CT hit
      go_wp2_with fail
      refine CT2.out.mono ?_
      rintro e w4 ⟨t, pv4, L4, rfl, hm4, hv4, hR4, hgd⟩
      obtain ⟨hm5, hv5, hg5⟩ := HFIN.out w2 w3 w4 t pv4 L4 HB2.out HB3.out hm4 hv4 hR4 hgd
      have HM5 := Lib.hid hm5
      have HV5 := Lib.hid hv5
      have HR4 := Lib.hid hR4
      have HL4 : Hid (code = 0 → L4 = L ++ P) := fun e => (hgd e).1
      by_cases hz : code = 0
      ·obtain ⟨ta, tc, rfl, hgood⟩ := hg5 hz
       have HGO := Lib.hid hgood
       have HL5 := Lib.hid (HL4.out hz)
       subst hz
       clear hm4 hv4 hR4 hgd hm5 hv5 hg5 hgood CT2
       go_wp2_with fail
       refine bodyPost_ret (v := .tuple #[.iface 126 (.agg #[.func (.func KF) #[] #[], .slice ta n tc]), .int .i64 0]) ?_ rfl ?_
       ·simp [results, Tryz.results66, go_sem, *]
       ·exact ⟨_, pv4, L4, rfl, HM5.out, HV5.out, HR4.out, fun _ => ⟨HL5.out, HGO.out⟩⟩
      ·have hz2 : (code == 0) = false := by rw [beq_eq_false_iff_ne]; exact hz
       have hz3 : (code != 0) = true := by unfold bne; rw [hz2]; rfl
       have HZ := Lib.hid hz
       clear hm4 hv4 hR4 hgd hm5 hv5 hg5 CT2 hz
       go_wp2_with fail
       refine bodyPost_ret (v := .tuple #[.nilIface, .int .i64 code]) ?_ rfl ?_
       ·simp [results, Tryz.results66, go_sem, *]
       ·exact ⟨_, pv4, L4, rfl, HM5.out, HV5.out, HR4.out, fun e => absurd e HZ.out⟩
     | true =>
      have hq3 := hq2 rfl
      clear hq2
      have hq0 : (mm == -1) = false := by unfold bne at hq1; cases e : (mm == -1) with | true => rw [e] at hq1; cases hq1 | false => rfl
      have hq4 : (mm == (n : Int)) = true := by unfold bne at hq3; cases e : (mm == (n : Int)) with | false => rw [e] at hq3; cases hq3 | true => rfl
      go_enter Tryz.func66, Tryz.ntmps66
      go_upto_region 1 with fail
      rw [← HW1.out, ← HP1.out]
      go_wp2_with fail
      refine CO.out.mono ?_
      rintro e w2 ⟨rfl, hb2⟩
      have HB2 : Hid (Below W1.heap.size W1 w2) := hb2
      obtain ⟨x0, x1, x2, x3, x4, x5⟩ := (HX1.out.keep hb2).cells
      have CB := Lib.hid (CA.out w2 hb2)
      clear hb2 CO CA
      go_wp2_with fail
      refine CB.out.mono ?_
      rintro e w3 ⟨aa, ac, rfl, -, hit, hb3⟩
      have HB3 : Hid (Below w2.heap.size w2 w3) := hb3
      have CT2 := Lib.hid (CT.out w2 w3 aa ac HB2.out hb3 hit)
      clear hb3 CB x0 x1 x2 x3 x4 x5 CT hit
      go_wp2_with fail
      refine CT2.out.mono ?_
      rintro e w4 ⟨t, pv4, L4, rfl, hm4, hv4, hR4, hgd⟩
      obtain ⟨hm5, hv5, hg5⟩ := HFIN.out w2 w3 w4 t pv4 L4 HB2.out HB3.out hm4 hv4 hR4 hgd
      have HM5 := Lib.hid hm5
      have HV5 := Lib.hid hv5
      have HR4 := Lib.hid hR4
      have HL4 : Hid (code = 0 → L4 = L ++ P) := fun e => (hgd e).1
      by_cases hz : code = 0
      ·obtain ⟨ta, tc, rfl, hgood⟩ := hg5 hz
       have HGO := Lib.hid hgood
       have HL5 := Lib.hid (HL4.out hz)
       subst hz
       clear hm4 hv4 hR4 hgd hm5 hv5 hg5 hgood CT2
       go_wp2_with fail
       refine bodyPost_ret (v := .tuple #[.iface 126 (.agg #[.func (.func KF) #[] #[], .slice ta n tc]), .int .i64 0]) ?_ rfl ?_
       ·simp [results, Tryz.results66, go_sem, *]
       ·exact ⟨_, pv4, L4, rfl, HM5.out, HV5.out, HR4.out, fun _ => ⟨HL5.out, HGO.out⟩⟩
      ·have hz2 : (code == 0) = false := by rw [beq_eq_false_iff_ne]; exact hz
       have hz3 : (code != 0) = true := by unfold bne; rw [hz2]; rfl
       have HZ := Lib.hid hz
       clear hm4 hv4 hR4 hgd hm5 hv5 hg5 CT2 hz
       go_wp2_with fail
       refine bodyPost_ret (v := .tuple #[.nilIface, .int .i64 code]) ?_ rfl ?_
       ·simp [results, Tryz.results66, go_sem, *]
       ·exact ⟨_, pv4, L4, rfl, HM5.out, HV5.out, HR4.out, fun e => absurd e HZ.out⟩
    rcases hf2 with e | ⟨e1, e2⟩
    ·exact KEY false (by rw [e]; rfl) (fun h => by cases h)
    ·exact KEY true (by unfold bne; rw [show (mm == -1) = false by rw [beq_eq_false_iff_ne]; exact e1]; rfl) (fun _ => by rw [← e2]; simp)
end Go.Proofs.YtiajjgehnmkokaaGreatDoor
end
section
namespace Go.Proofs.YtiajjgehnmkokaaGreatDoor
open Go.RowKit
open Seal
open Bson (Val)
structure OI (w0 : World) (cs : List Value) (er : Value) (P : Value → World → Prop) (D : Nat → Bool) (V : Nat → Value) (W : World) : Prop where
 pure : ∀ i, i < 9 → D i = true → V i = cs.getD i undef
 before : D 9 = false → W = { w0 with drawn := w0.drawn + 1 }
 dep : (D 2 = true → D 1 = true) ∧ (D 3 = true → D 2 = true) ∧ (D 4 = true → D 3 = true) ∧ (D 6 = true → D 5 = true) ∧ (D 7 = true → D 6 = true) ∧ (D 8 = true → D 7 = true)
 full : D 9 = true → ∀ i, i < 9 → D i = true
 call : D 9 = true → ∃ t, V 9 = .tuple #[t, er] ∧ P t W ∧ (D 10 = true → V 10 = t) ∧ (D 11 = true → V 11 = er) ∧ (D 12 = true → V 12 = t) ∧ (D 13 = true → V 13 = er)
 ord : (D 10 = true → D 9 = true) ∧ (D 11 = true → D 9 = true) ∧ (D 12 = true → D 10 = true) ∧ (D 13 = true → D 11 = true)
section
variable {w0 W W' : World} {cs : List Value} {er : Value} {P : Value → World → Prop} {D : Nat → Bool} {V : Nat → Value}
theorem setD_o {i j : Nat} (h : j ≠ i) : setD D i j = D j := if_neg h
theorem upd_o {i j : Nat} {v : Value} (h : j ≠ i) : upd V i v j = V j := if_neg h
theorem setD_s {i : Nat} : setD D i i = true := if_pos rfl
theorem upd_s {i : Nat} {v : Value} : upd V i v i = v := if_pos rfl
theorem OI.start {V : Nat → Value} : OI w0 cs er P (fun _ => false) V { w0 with drawn := w0.drawn + 1 } :=
 ⟨fun _ _ h => (by cases h), fun _ => rfl, ⟨fun h => (by cases h), fun h => (by cases h), fun h => (by cases h), fun h => (by cases h), fun h => (by cases h), fun h => (by cases h)⟩, fun h => (by cases h), fun h => (by cases h), ⟨fun h => (by cases h), fun h => (by cases h), fun h => (by cases h), fun h => (by cases h)⟩⟩
theorem OI.known (h : OI w0 cs er P D V W) {i : Nat} (hi : i < 9) (hd : D i = true) : V i = cs.getD i undef := h.pure i hi hd
theorem OI.not9 (h : OI w0 cs er P D V W) {i : Nat} (hi : i < 9) (hd : D i = false) : D 9 = false := by
 cases e : D 9 with
 | false => rfl
 | true => rw [h.full e i hi] at hd; cases hd
theorem OI.world (h : OI w0 cs er P D V W) {i : Nat} (hi : i < 9) (hd : D i = false) : W = { w0 with drawn := w0.drawn + 1 } := h.before (h.not9 hi hd)
theorem OI.step (h : OI w0 cs er P D V W) {i : Nat} (hi : i < 9) (hd : D i = false) {c : Value} (hc : c = cs.getD i undef)
  (hp : (i = 2 → D 1 = true) ∧ (i = 3 → D 2 = true) ∧ (i = 4 → D 3 = true) ∧ (i = 6 → D 5 = true) ∧ (i = 7 → D 6 = true) ∧ (i = 8 → D 7 = true)) : OI w0 cs er P (setD D i) (upd V i c) W := by
 have n9 := h.not9 hi hd
 have e9 : setD D i 9 = D 9 := setD_o (by omega)
 have mono : ∀ j, D j = true → setD D i j = true := fun j e => by
  by_cases ej : j = i
  ·subst ej; exact setD_s
  ·rw [setD_o ej]; exact e
 have step : ∀ a b, (i = a → D b = true) → (D a = true → D b = true) → setD D i a = true → setD D i b = true := fun a b h1 h2 h3 => by
  by_cases e : i = a
  ·exact mono b (h1 e)
  ·rw [setD_o (fun x => e x.symm)] at h3; exact mono b (h2 h3)
 obtain ⟨d1, d2, d3, d4, d5, d6⟩ := h.dep
 obtain ⟨p1, p2, p3, p4, p5, p6⟩ := hp
 obtain ⟨o1, o2, o3, o4⟩ := h.ord
 refine ⟨fun j hj hd => ?_, fun _ => h.before n9, ⟨step 2 1 p1 d1, step 3 2 p2 d2, step 4 3 p3 d3, step 6 5 p4 d4, step 7 6 p5 d5, step 8 7 p6 d6⟩, fun e => (by rw [e9, n9] at e; cases e), fun e => (by rw [e9, n9] at e; cases e), ?_⟩
 ·by_cases ej : j = i
  ·subst ej; rw [upd_s]; exact hc
  ·rw [setD_o ej] at hd; rw [upd_o ej]; exact h.pure j hj hd
 ·have e10 : setD D i 10 = D 10 := setD_o (by omega)
  have e11 : setD D i 11 = D 11 := setD_o (by omega)
  have e12 : setD D i 12 = D 12 := setD_o (by omega)
  have e13 : setD D i 13 = D 13 := setD_o (by omega)
  rw [e9, e10, e11, e12, e13]
  exact ⟨o1, o2, o3, o4⟩
theorem OI.ask (h : OI w0 cs er P D V W) (hd : D 9 = false) (h0 : D 0 = true) (h4 : D 4 = true) (h8 : D 8 = true) {t : Value} (ht : P t W') : OI w0 cs er P (setD D 9) (upd V 9 (.tuple #[t, er])) W' := by
 have e : ∀ j, j ≠ 9 → setD D 9 j = D j := fun j hj => setD_o hj
 have u : ∀ j, j ≠ 9 → upd V 9 (.tuple #[t, er]) j = V j := fun j hj => upd_o hj
 obtain ⟨d1, d2, d3, d4, d5, d6⟩ := h.dep
 obtain ⟨o1, o2, o3, o4⟩ := h.ord
 have f : ∀ j, D j = true → (D j = true → D 9 = true) → False := fun j e1 e2 => by rw [e2 e1] at hd; cases hd
 have n10 : D 10 = false := by cases e : D 10 with | false => rfl | true => exact (f 10 e o1).elim
 have n11 : D 11 = false := by cases e : D 11 with | false => rfl | true => exact (f 11 e o2).elim
 have n12 : D 12 = false := by cases e : D 12 with | false => rfl | true => rw [o3 e] at n10; cases n10
 have n13 : D 13 = false := by cases e : D 13 with | false => rfl | true => rw [o4 e] at n11; cases n11
 refine ⟨fun j hj hdj => ?_, fun e9 => ?_, ?_, fun _ j hj => ?_, fun _ => ?_, ?_⟩
 ·rw [e j (by omega)] at hdj; rw [u j (by omega)]; exact h.pure j hj hdj
 ·rw [setD_s] at e9; cases e9
 ·rw [e 1 (by omega), e 2 (by omega), e 3 (by omega), e 4 (by omega), e 5 (by omega), e 6 (by omega), e 7 (by omega), e 8 (by omega)]; exact h.dep
 ·rw [e j (by omega)]
  have h3 := d3 h4
  have h2 := d2 h3
  have h7 := d6 h8
  have h6 := d5 h7
  have : j = 0 ∨ j = 1 ∨ j = 2 ∨ j = 3 ∨ j = 4 ∨ j = 5 ∨ j = 6 ∨ j = 7 ∨ j = 8 := by omega
  rcases this with rfl | rfl | rfl | rfl | rfl | rfl | rfl | rfl | rfl
  ·exact h0
  ·exact d1 h2
  ·exact h2
  ·exact h3
  ·exact h4
  ·exact d4 h6
  ·exact h6
  ·exact h7
  ·exact h8
 ·refine ⟨t, upd_s, ht, ?_, ?_, ?_, ?_⟩
  ·rw [e 10 (by omega), n10]; exact fun h => (by cases h)
  ·rw [e 11 (by omega), n11]; exact fun h => (by cases h)
  ·rw [e 12 (by omega), n12]; exact fun h => (by cases h)
  ·rw [e 13 (by omega), n13]; exact fun h => (by cases h)
 ·rw [e 10 (by omega), e 11 (by omega), e 12 (by omega), e 13 (by omega), n10, n11, n12, n13]
  exact ⟨fun h => (by cases h), fun h => (by cases h), fun h => (by cases h), fun h => (by cases h)⟩
theorem OI.more (h : OI w0 cs er P D V W) (h9 : D 9 = true) {i : Nat} (hi : 10 ≤ i) {v : Value} (hv : ∀ t, V 9 = .tuple #[t, er] → (i = 10 → v = t) ∧ (i = 11 → v = er) ∧ (i = 12 → v = t) ∧ (i = 13 → v = er)) (hp : (i = 12 → D 10 = true) ∧ (i = 13 → D 11 = true)) : OI w0 cs er P (setD D i) (upd V i v) W := by
 have e : ∀ j, j ≠ i → setD D i j = D j := fun j hj => setD_o hj
 have u : ∀ j, j ≠ i → upd V i v j = V j := fun j hj => upd_o hj
 obtain ⟨o1, o2, o3, o4⟩ := h.ord
 obtain ⟨t, c1, c2, c3, c4, c5, c6⟩ := h.call h9
 obtain ⟨v1, v2, v3, v4⟩ := hv t c1
 have mono : ∀ j, D j = true → setD D i j = true := fun j e => by
  by_cases ej : j = i
  ·subst ej; exact setD_s
  ·rw [setD_o ej]; exact e
 have pick : ∀ a x, (D a = true → V a = x) → (i = a → v = x) → setD D i a = true → upd V i v a = x := fun a x h1 h2 h3 => by
  by_cases ea : a = i
  ·subst ea; rw [upd_s]; exact h2 rfl
  ·rw [e a ea] at h3; rw [u a ea]; exact h1 h3
 refine ⟨fun j hj hd => ?_, fun e9 => ?_, ?_, fun _ j hj => ?_, fun _ => ?_, ?_⟩
 ·rw [e j (by omega)] at hd; rw [u j (by omega)]; exact h.pure j hj hd
 ·rw [e 9 (by omega), h9] at e9; cases e9
 ·rw [e 1 (by omega), e 2 (by omega), e 3 (by omega), e 4 (by omega), e 5 (by omega), e 6 (by omega), e 7 (by omega), e 8 (by omega)]; exact h.dep
 ·rw [e j (by omega)]; exact h.full h9 j hj
 ·exact ⟨t, (u 9 (by omega)).trans c1, c2, pick 10 t c3 v1, pick 11 er c4 v2, pick 12 t c5 v3, pick 13 er c6 v4⟩
 ·have m9 : setD D i 9 = true := mono 9 h9
  refine ⟨fun _ => m9, fun _ => m9, fun h3 => ?_, fun h3 => ?_⟩
  ·by_cases ea : i = 12
   ·exact mono 10 (hp.1 ea)
   ·rw [e 12 (by omega)] at h3; exact mono 10 (o3 h3)
  ·by_cases ea : i = 13
   ·exact mono 11 (hp.2 ea)
   ·rw [e 13 (by omega)] at h3; exact mono 11 (o4 h3)
theorem OI.got (h : OI w0 cs er P D V W) (h9 : D 9 = true) : ∃ t, V 9 = .tuple #[t, er] := by
 obtain ⟨t, c1, _⟩ := h.call h9; exact ⟨t, c1⟩
theorem OI.end (h : OI w0 cs er P D V W) (hD : ∀ j, j < 14 → D j = true) : ∃ t, V 12 = t ∧ V 13 = er ∧ P t W := by
 obtain ⟨t, -, c2, -, -, c5, c6⟩ := h.call (hD 9 (by omega))
 exact ⟨t, c5 (hD 12 (by omega)), c6 (hD 13 (by omega)), c2⟩
end
theorem RdrPost.from {w w2 : World} {g : Nat} {pv : Value} {L P : List (List ByteArray)} {code : Int} {G : World → Value → Value → Prop} {G2 : World → Value → Value → Prop} {e : Ending} {w' : World} (hb : Below w.heap.size w w2) (h : RdrPost w2 g pv L P code G e w') (hG : ∀ w' pv' t, G w' pv' t → G2 w' pv' t) : RdrPost w g pv L P code G2 e w' := by
 obtain ⟨t, pv', L', rfl, hm, hv, hR, hg⟩ := h
 exact ⟨t, pv', L', rfl, (RM.of_below (F := RF g pv) hb).trans hm (fun _ _ e => e), (Mvd.refl w pv).trans (w' := w2) hv hb.size, hR, fun e => ⟨(hg e).1, hG _ _ _ (hg e).2⟩⟩
theorem TermGood.from {g B B2 H H2 : Nat} {f : Nat → Val → Expr.Out} {w' : World} {pv' t : Value} (h : TermGood g B H f w' pv' t) (hB : B2 ≤ B) (hH : H ≤ H2) : TermGood g B2 H2 f w' pv' t := fun W hW => (h W (hW.mono fun k hk e => by
 rcases e with e | e
 ·exact .inl ⟨e.1, by omega⟩
 ·exact .inr e)).up hH
theorem any_false {f : List (ByteArray × Val)} (h : (f.any fun p => Expr.dollar p.1) = false) : ∀ p ∈ f, Expr.dollar p.1 = false := fun p hp => by
 cases e : Expr.dollar p.1 with
 | false => rfl
 | true =>
  have : (f.any fun p => Expr.dollar p.1) = true := List.any_eq_true.2 ⟨p, hp, e⟩
  rw [this] at h; cases h
theorem pathsV_doc (h : Nat) (x : Val) (hk : x.kind = 6) (hs : (x.f.any fun p => Expr.dollar p.1) = false) : pathsV (h + 1) x = (x.f.map fun p => pathsV h p.2).flatten := by
 rw [pathsV, if_neg (by rw [hk]; decide), if_neg (by rw [hk]; decide), if_pos hk, if_neg (by rw [hs]; decide)]
theorem parseV_doc (h : Nat) (x : Val) (hk : x.kind = 6) (hs : (x.f.any fun p => Expr.dollar p.1) = false) : Expr.parseV (h + 1) x = Expr.parseAll (Expr.parseV h) (x.f.map (·.2)) := by
 rw [Expr.parseV, if_neg (by rw [hk]; omega), if_neg (by rw [hk]; decide), if_neg (by rw [hk]; decide), if_pos hk, if_neg (by rw [hs]; decide)]
theorem parseV_two (h : Nat) (x : Val) (hk : x.kind = 6) (hs : (x.f.any fun p => Expr.dollar p.1) = true) (hn : 1 < x.f.length) : Expr.parseV (h + 1) x = 13 := by
 rw [Expr.parseV, if_neg (by rw [hk]; omega), if_neg (by rw [hk]; decide), if_neg (by rw [hk]; decide), if_pos hk, if_pos hs]
 match e : x.f with
 | [] => rfl
 | [p] => rw [e] at hn; simp at hn
 | p :: q :: r => rfl
theorem edoc_any (N C h : Nat) (hC : 3 * (h + 1) ≤ C) (IH : TermDo N C h) (W0 w : World) (g : Nat) (pv : Value) (L : List (List ByteArray)) (Q : Nat → Prop) (x : Val) (a : Option Addr) (n c : Nat) (hk : x.kind = 6) (hn : x.f.length = n) (hG : Ground W0) (hg : W0.heap.size ≤ g) (hb : Below W0.heap.size W0 w) (hR : Rd w g pv L) (hI : FieldsIn W0 Q (VIn W0 Q h) a x.f) (hf : FitV x) (hL : L.length + (pathsV (h + 1) x).length ≤ 1000000) :
  Calls Tryz.prog 47 #[.pointer (some ⟨g, 0, none⟩), .slice a n c] w (RdrPost w g pv L (pathsV (h + 1) x) (Expr.parseV (h + 1) x) (TermGood g w.heap.size (3 * (h + 1)) (evF N C (h + 1) x))) := by
 have hlim : n ≤ 256 := by rw [← hn]; exact hf.f
 have CH := Lib.hid (hasOp_any w Q h a n c x.f hn (by omega) (hI.kept (Kept.of_below hb) (fun _ h => h) (fun _ _ h => VIn.keep hb h)))
 cases hs : (x.f.any fun p => Expr.dollar p.1) with
 | false =>
  rw [hs] at CH
  rw [pathsV_doc h x hk hs] at hL
  have CD : Hid (∀ W, Below w.heap.size w W → Calls Tryz.prog 65 #[.pointer (some ⟨g, 0, none⟩), .slice a n c] W (RdrPost w g pv L (pathsV (h + 1) x) (Expr.parseV (h + 1) x) (TermGood g w.heap.size (3 * (h + 1)) (evF N C (h + 1) x)))) := fun W hW => by
   rw [pathsV_doc h x hk hs, parseV_doc h x hk hs, evF_doc N C h x hk (any_false hs)]
   exact (rdocument_any N C h IH W0 W g pv L Q a n c x.f hG hg (hb.trans (hW.mono hb.size)) (hR.below hW) hn hlim hf.fs hI hL).mono fun e w' hp => hp.from hW fun _ _ _ hh => hh.from hW.size (by omega)
  clear hI hG hg hb hR hf hL hs hk hn IH
  go_enter Tryz.func47, Tryz.ntmps47
  go_wp2_with fail
  refine CH.out.mono ?_
  rintro e w2 ⟨rfl, hb2⟩
  have CD2 := Lib.hid (CD.out w2 hb2)
  clear hb2 CH CD
  go_wp2_with fail
  refine CD2.out.mono ?_
  rintro e w3 ⟨t, pv', L', rfl, hpost⟩
  have HP := Lib.hid hpost
  clear hpost CD2
  go_wp2_with fail
  refine bodyPost_ret (v := .tuple #[t, .int .i64 (Expr.parseV (h + 1) x)]) ?_ rfl ?_
  ·simp [results, Tryz.results47, go_sem, *]
  ·exact ⟨t, pv', L', rfl, HP.out⟩
 | true =>
  rw [hs] at CH
  have hn0 : n ≠ 0 := by
   intro e
   rw [e] at hn
   rw [List.eq_nil_of_length_eq_zero hn] at hs
   cases hs
  by_cases h1 : 1 < n
  ·rw [parseV_two h x hk hs (by rw [hn]; exact h1)]
   have h1i : (1 : Int) < (n : Int) := by omega
   have HR := Lib.hid hR
   clear hI hG hg hb hR hf hL hs hk hn IH
   go_enter Tryz.func47, Tryz.ntmps47
   go_wp2_with fail
   refine CH.out.mono ?_
   rintro e w2 ⟨rfl, hb2⟩
   have HB2 := Lib.hid hb2
   clear hb2 CH
   go_wp2_with fail
   refine bodyPost_ret (v := .tuple #[.nilIface, .int .i64 13]) ?_ rfl ?_
   ·simp [results, Tryz.results47, go_sem, *]
   ·exact ⟨_, pv, L, rfl, RM.of_below HB2.out, Mvd.refl _ _, HR.out.below HB2.out, fun e => by cases e⟩
  ·obtain rfl : n = 1 := by omega
   obtain ⟨⟨s, y⟩, hxf⟩ := List.length_eq_one_iff.1 hn
   have hds : Expr.dollar s = true := by rw [hxf] at hs; simpa using hs
   rw [hxf] at hI
   obtain ⟨g0, o0, rfl, hq0, hall⟩ := hI.resolve_left (by simp)
   obtain ⟨hnm, -, yv, hsix, hV⟩ := hall 0 (by simp)
   obtain ⟨ik, im, is_, b0, f0, l0, bb0, bc0, fb0, fc0, lb0, lc0, rfl⟩ := hV.shape
   have CO : Hid (∀ W, Below w.heap.size w W → Calls Tryz.prog 66 #[.pointer (some ⟨g, 0, none⟩), .string s, .agg #[.int .i64 ik, .int .i64 im, .string is_, .slice b0 bb0 bc0, .slice f0 fb0 fc0, .slice l0 lb0 lc0]] W (RdrPost w g pv L (pathsV (h + 1) x) (Expr.parseV (h + 1) x) (TermGood g w.heap.size (3 * (h + 1)) (evF N C (h + 1) x)))) := fun W hW =>
    (roper_any N C h hC IH W0 W g pv L Q x y s _ hk hxf hds hG hg (hb.trans (hW.mono hb.size)) (hR.below hW) hV (hf.fs (s, y) (by rw [hxf]; exact List.mem_cons_self)) hL).mono fun e w' hp => hp.from hW fun _ _ _ hh => hh.from hW.size (Nat.le_refl _)
   have HS : Hid (w.cell? ⟨g0, o0, none⟩ = some (.string s) ∧ SixAt w g0 (o0 + 1) (.agg #[.int .i64 ik, .int .i64 im, .string is_, .slice b0 bb0 bc0, .slice f0 fb0 fc0, .slice l0 lb0 lc0])) := by
    rw [Nat.zero_mul, Nat.add_zero] at hnm hsix
    exact ⟨cell_keep hb hnm, hsix.keep hb⟩
   have h1i : (0 : Int) < ((1 : Nat) : Int) := by omega
   clear hI hG hg hb hR hf hL hs hk hn IH hall hnm hsix hV hq0 hxf hds hn0 h1
   obtain ⟨code, hcode⟩ : ∃ z, z = Expr.parseV (h + 1) x := ⟨_, rfl⟩
   rw [← hcode] at CO ⊢
   clear hcode
   go_enter Tryz.func47, Tryz.ntmps47
   go_wp2_with fail
   refine CH.out.mono ?_
   rintro e w2 ⟨rfl, hb2⟩
   have HB2 : Hid (Below w.heap.size w w2) := hb2
   have HS2 : Hid (w2.cell? ⟨g0, o0, none⟩ = some (.string s) ∧ SixAt w2 g0 (o0 + 1) (.agg #[.int .i64 ik, .int .i64 im, .string is_, .slice b0 bb0 bc0, .slice f0 fb0 fc0, .slice l0 lb0 lc0])) := ⟨cell_keep hb2 HS.out.1, HS.out.2.keep hb2⟩
   clear hb2 CH HS
   go_upto_region 5 with fail
   obtain ⟨PP, hPP⟩ : ∃ P : Value → World → Prop, P = fun t W => RdrPost w g pv L (pathsV (h + 1) x) code (TermGood g w.heap.size (3 * (h + 1)) (evF N C (h + 1) x)) (.returned (.tuple #[t, .int .i64 code])) W := ⟨_, rfl⟩
   have HPP := Lib.hid hPP
   clear hPP
   refine wp_region_inv0 (fun V => { tmps := #[.pointer (some ⟨g, 0, none⟩), .slice (some ⟨g0, o0, none⟩) 1 c, undef, undef, V 12, V 13, .slice (some ⟨g0, o0, none⟩) 1 c, .bool true, .bool false, undef, undef, undef, undef, undef, .slice (some ⟨g0, o0, none⟩) 1 c, .int .i64 1, .bool false, V 0, V 1, V 2, V 3, V 4, V 5, V 6, V 7, V 8, V 9, V 10, V 11], defers := [] }) (OI w2 [.pointer (some ⟨g, 0, none⟩), .slice (some ⟨g0, o0, none⟩) 1 c, .pointer (some ⟨g0, o0, none⟩), .pointer (some ⟨g0, o0, none⟩), .string s, .slice (some ⟨g0, o0, none⟩) 1 c, .pointer (some ⟨g0, o0, none⟩), .pointer (some ⟨g0, o0 + 1, none⟩), .agg #[.int .i64 ik, .int .i64 im, .string is_, .slice b0 bb0 bc0, .slice f0 fb0 fc0, .slice l0 lb0 lc0]] (.int .i64 code) PP) (by kernel_rfl) (by kernel_rfl) (by kernel_rfl) (fun V => by kernel_rfl) ?_ OI.start ?_
   ·refine ⟨?_, ?_⟩
    ·refine inv_free rfl (fun D9 V w5 hDi hpre hI K hK => ?_)
     go_simp
     exact put_is (by kernel_rfl) (hK.out (.pointer (some ⟨g, 0, none⟩)) w5 (hI.step (by decide) hDi rfl ⟨fun h => absurd h (by decide), fun h => absurd h (by decide), fun h => absurd h (by decide), fun h => absurd h (by decide), fun h => absurd h (by decide), fun h => absurd h (by decide)⟩))
    refine ⟨?_, ?_⟩
    ·refine inv_free rfl (fun D9 V w5 hDi hpre hI K hK => ?_)
     go_simp
     exact put_is (by kernel_rfl) (hK.out (.slice (some ⟨g0, o0, none⟩) 1 c) w5 (hI.step (by decide) hDi rfl ⟨fun h => absurd h (by decide), fun h => absurd h (by decide), fun h => absurd h (by decide), fun h => absurd h (by decide), fun h => absurd h (by decide), fun h => absurd h (by decide)⟩))
    refine ⟨?_, ?_⟩
    ·refine inv_free rfl (fun D9 V w5 hDi hpre hI K hK => ?_)
     have e1 : V 1 = .slice (some ⟨g0, o0, none⟩) 1 c := hI.known (by decide) (hpre.out 1 (by kernel_rfl))
     go_simp
     exact put_is (by rw [e1]; kernel_rfl) (hK.out (.pointer (some ⟨g0, o0, none⟩)) w5 (hI.step (by decide) hDi rfl ⟨fun _ => hpre.out 1 (by kernel_rfl), fun h => absurd h (by decide), fun h => absurd h (by decide), fun h => absurd h (by decide), fun h => absurd h (by decide), fun h => absurd h (by decide)⟩))
    refine ⟨?_, ?_⟩
    ·refine inv_free rfl (fun D9 V w5 hDi hpre hI K hK => ?_)
     have e2 : V 2 = .pointer (some ⟨g0, o0, none⟩) := hI.known (by decide) (hpre.out 2 (by kernel_rfl))
     go_simp
     exact put_is (by rw [e2]; kernel_rfl) (hK.out (.pointer (some ⟨g0, o0, none⟩)) w5 (hI.step (by decide) hDi rfl ⟨fun h => absurd h (by decide), fun _ => hpre.out 2 (by kernel_rfl), fun h => absurd h (by decide), fun h => absurd h (by decide), fun h => absurd h (by decide), fun h => absurd h (by decide)⟩))
    refine ⟨?_, ?_⟩
    ·refine inv_free rfl (fun D9 V w5 hDi hpre hI K hK => ?_)
     have e3 : V 3 = .pointer (some ⟨g0, o0, none⟩) := hI.known (by decide) (hpre.out 3 (by kernel_rfl))
     have hc : w5.cell? ⟨g0, o0, none⟩ = some (.string s) := by rw [hI.world (by decide) hDi]; exact HS2.out.1
     go_simp
     exact put_is (by rw [e3]; kernel_rfl) (hK.out (.string s) w5 (hI.step (by decide) hDi rfl ⟨fun h => absurd h (by decide), fun h => absurd h (by decide), fun _ => hpre.out 3 (by kernel_rfl), fun h => absurd h (by decide), fun h => absurd h (by decide), fun h => absurd h (by decide)⟩))
    refine ⟨?_, ?_⟩
    ·refine inv_free rfl (fun D9 V w5 hDi hpre hI K hK => ?_)
     go_simp
     exact put_is (by kernel_rfl) (hK.out (.slice (some ⟨g0, o0, none⟩) 1 c) w5 (hI.step (by decide) hDi rfl ⟨fun h => absurd h (by decide), fun h => absurd h (by decide), fun h => absurd h (by decide), fun h => absurd h (by decide), fun h => absurd h (by decide), fun h => absurd h (by decide)⟩))
    refine ⟨?_, ?_⟩
    ·refine inv_free rfl (fun D9 V w5 hDi hpre hI K hK => ?_)
     have e5 : V 5 = .slice (some ⟨g0, o0, none⟩) 1 c := hI.known (by decide) (hpre.out 5 (by kernel_rfl))
     go_simp
     exact put_is (by rw [e5]; kernel_rfl) (hK.out (.pointer (some ⟨g0, o0, none⟩)) w5 (hI.step (by decide) hDi rfl ⟨fun h => absurd h (by decide), fun h => absurd h (by decide), fun h => absurd h (by decide), fun _ => hpre.out 5 (by kernel_rfl), fun h => absurd h (by decide), fun h => absurd h (by decide)⟩))
    refine ⟨?_, ?_⟩
    ·refine inv_free rfl (fun D9 V w5 hDi hpre hI K hK => ?_)
     have e6 : V 6 = .pointer (some ⟨g0, o0, none⟩) := hI.known (by decide) (hpre.out 6 (by kernel_rfl))
     go_simp
     exact put_is (by rw [e6]; kernel_rfl) (hK.out (.pointer (some ⟨g0, o0 + 1, none⟩)) w5 (hI.step (by decide) hDi rfl ⟨fun h => absurd h (by decide), fun h => absurd h (by decide), fun h => absurd h (by decide), fun h => absurd h (by decide), fun _ => hpre.out 6 (by kernel_rfl), fun h => absurd h (by decide)⟩))
    refine ⟨?_, ?_⟩
    ·refine inv_free rfl (fun D9 V w5 hDi hpre hI K hK => ?_)
     have e7 : V 7 = .pointer (some ⟨g0, o0 + 1, none⟩) := hI.known (by decide) (hpre.out 7 (by kernel_rfl))
     have hsx : SixAt w5 g0 (o0 + 1) (.agg #[.int .i64 ik, .int .i64 im, .string is_, .slice b0 bb0 bc0, .slice f0 fb0 fc0, .slice l0 lb0 lc0]) := by rw [hI.world (by decide) hDi]; exact HS2.out.2
     obtain ⟨z0, z1, z2, z3, z4, z5⟩ := hsx.cells
     go_simp
     exact put_is (by rw [e7]; kernel_rfl) (hK.out (.agg #[.int .i64 ik, .int .i64 im, .string is_, .slice b0 bb0 bc0, .slice f0 fb0 fc0, .slice l0 lb0 lc0]) w5 (hI.step (by decide) hDi rfl ⟨fun h => absurd h (by decide), fun h => absurd h (by decide), fun h => absurd h (by decide), fun h => absurd h (by decide), fun h => absurd h (by decide), fun _ => hpre.out 7 (by kernel_rfl)⟩))
    refine ⟨?_, ?_⟩
    ·refine inv_free rfl (fun D9 V w5 hDi hpre hI K hK => ?_)
     have e0 : V 0 = .pointer (some ⟨g, 0, none⟩) := hI.known (by decide) (hpre.out 0 (by kernel_rfl))
     have e4 : V 4 = .string s := hI.known (by decide) (hpre.out 4 (by kernel_rfl))
     have e8 : V 8 = .agg #[.int .i64 ik, .int .i64 im, .string is_, .slice b0 bb0 bc0, .slice f0 fb0 fc0, .slice l0 lb0 lc0] := hI.known (by decide) (hpre.out 8 (by kernel_rfl))
     have CK := CO.out w5 (by rw [hI.before hDi]; exact HB2.out.drew)
     go_simp
     refine CK.mono ?_
     rintro e w6 ⟨t, pv', L', rfl, hpost⟩
     exact put_is (by rw [e0, e4, e8]; kernel_rfl) (hK.out (.tuple #[t, .int .i64 code]) w6 (hI.ask hDi (hpre.out 0 (by kernel_rfl)) (hpre.out 4 (by kernel_rfl)) (hpre.out 8 (by kernel_rfl)) (by rw [HPP.out]; exact ⟨t, pv', L', rfl, hpost⟩)))
    refine ⟨?_, ?_⟩
    ·refine inv_free rfl (fun D9 V w5 hDi hpre hI K hK => ?_)
     obtain ⟨t, e9⟩ := hI.got (hpre.out 9 (by kernel_rfl))
     go_simp
     exact put_is (by rw [e9]; kernel_rfl) (hK.out (t) w5 (hI.more (hpre.out 9 (by kernel_rfl)) (by decide) (fun t' e' => by rw [e9] at e'; injection e' with e'; injection e' with e'; injection e' with e1 e2; subst e1; exact ⟨fun _ => rfl, fun h => absurd h (by decide), fun h => absurd h (by decide), fun h => absurd h (by decide)⟩) ⟨fun h => absurd h (by decide), fun h => absurd h (by decide)⟩))
    refine ⟨?_, ?_⟩
    ·refine inv_free rfl (fun D9 V w5 hDi hpre hI K hK => ?_)
     obtain ⟨t, e9⟩ := hI.got (hpre.out 9 (by kernel_rfl))
     go_simp
     exact put_is (by rw [e9]; kernel_rfl) (hK.out (.int .i64 code) w5 (hI.more (hpre.out 9 (by kernel_rfl)) (by decide) (fun t' e' => by rw [e9] at e'; injection e' with e'; injection e' with e'; injection e' with e1 e2; subst e1; exact ⟨fun h => absurd h (by decide), fun _ => rfl, fun h => absurd h (by decide), fun h => absurd h (by decide)⟩) ⟨fun h => absurd h (by decide), fun h => absurd h (by decide)⟩))
    refine ⟨?_, ?_⟩
    ·refine inv_free rfl (fun D9 V w5 hDi hpre hI K hK => ?_)
     obtain ⟨t, e9, -, h10, h11, -⟩ := hI.call (hpre.out 9 (by kernel_rfl))
     have e10 := h10 (hpre.out 10 (by kernel_rfl))
     go_simp
     exact put_is (by rw [e9, e10]; kernel_rfl) (hK.out (t) w5 (hI.more (hpre.out 9 (by kernel_rfl)) (by decide) (fun t' e' => by rw [e9] at e'; injection e' with e'; injection e' with e'; injection e' with e1 e2; subst e1; exact ⟨fun h => absurd h (by decide), fun h => absurd h (by decide), fun _ => rfl, fun h => absurd h (by decide)⟩) ⟨fun _ => hpre.out 10 (by kernel_rfl), fun h => absurd h (by decide)⟩))
    refine ⟨?_, ?_⟩
    ·refine inv_free rfl (fun D9 V w5 hDi hpre hI K hK => ?_)
     obtain ⟨t, e9, -, h10, h11, -⟩ := hI.call (hpre.out 9 (by kernel_rfl))
     have e11 := h11 (hpre.out 11 (by kernel_rfl))
     go_simp
     exact put_is (by rw [e9, e11]; kernel_rfl) (hK.out (.int .i64 code) w5 (hI.more (hpre.out 9 (by kernel_rfl)) (by decide) (fun t' e' => by rw [e9] at e'; injection e' with e'; injection e' with e'; injection e' with e1 e2; subst e1; exact ⟨fun h => absurd h (by decide), fun h => absurd h (by decide), fun h => absurd h (by decide), fun _ => rfl⟩) ⟨fun h => absurd h (by decide), fun _ => hpre.out 11 (by kernel_rfl)⟩))
    trivial
   intro D9 V w9 hD9 hI9
   obtain ⟨t, e12, e13, hpost⟩ := hI9.end hD9
   rw [e12, e13]
   rw [HPP.out] at hpost
   have HPO := Lib.hid hpost
   clear hI9 hD9 e12 e13 hpost CO
   go_wp2_with fail
   refine bodyPost_ret (v := .tuple #[t, .int .i64 code]) ?_ rfl ?_
   ·simp [results, Tryz.results47, go_sem, *]
   ·exact HPO.out
end Go.Proofs.YtiajjgehnmkokaaGreatDoor
end
