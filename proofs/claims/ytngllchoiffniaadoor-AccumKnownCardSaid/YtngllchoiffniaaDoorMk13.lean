/- BsonMItems. -/
import Derived.Test.YtngllchoiffniaaDoorMk12
set_option maxRecDepth 100000
set_option maxHeartbeats 20000000
section
namespace Go.Proofs.YtngllchoiffniaaDoor
open Go.RowKit
open Seal
open Bson (Val)
theorem row_cons {e : Val → Option (List Nat)} {s : ByteArray} {v : Val} {l : List (ByteArray × Val)} {r : List Nat} (h : Bson.row e ((s, v) :: l) = some r) :
  ∃ x y, Bson.nameMay s = true ∧ e v = some x ∧ Bson.row e l = some y ∧ r = Bson.code v.kind :: (Bson.bytes s ++ (0 :: (x ++ y))) := by
 rw [Bson.row] at h
 split at h
 ·next x y h1 h2 h3 => exact ⟨x, y, h1, h2, h3, (Option.some.inj h).symm⟩
 ·cases h
theorem row_cons_of {e : Val → Option (List Nat)} {s : ByteArray} {v : Val} {l : List (ByteArray × Val)} {x y : List Nat} (h1 : Bson.nameMay s = true) (h2 : e v = some x) (h3 : Bson.row e l = some y) :
  Bson.row e ((s, v) :: l) = some (Bson.code v.kind :: (Bson.bytes s ++ (0 :: (x ++ y)))) := by
 rw [Bson.row, h1, h2, h3]
theorem row_snoc (e : Val → Option (List Nat)) : ∀ (l : List (ByteArray × Val)) (k : Nat) (hk : k < l.length) (r x : List Nat), Bson.row e (l.take k) = some r → Bson.nameMay l[k].1 = true → e l[k].2 = some x →
  ∃ r', Bson.row e (l.take (k + 1)) = some r' ∧ r'.length = r.length + (l[k].1.size + 2) + x.length
 | [], _, hk, _, _, _, _, _ => by simp at hk
 | (s, v) :: l, 0, _, r, x, hr, hn, hx => by
  have hr' : Bson.row e [] = some r := hr
  rw [Bson.row] at hr'
  cases hr'
  refine ⟨_, row_cons_of (l := []) hn hx (by rw [Bson.row]), ?_⟩
  simp [Bson.bytes_length]; omega
 | (s, v) :: l, k + 1, hk, r, x, hr, hn, hx => by
  obtain ⟨x0, y0, h1, h2, h3, rfl⟩ := row_cons (show Bson.row e ((s, v) :: l.take k) = some r from hr)
  obtain ⟨r', h4, h5⟩ := row_snoc e l k (by simpa using hk) y0 x h3 hn hx
  refine ⟨_, row_cons_of h1 h2 h4, ?_⟩
  simp only [List.length_cons, List.length_append, List.getElem_cons_succ]
  omega
theorem row_part (e : Val → Option (List Nat)) : ∀ (l : List (ByteArray × Val)) (k : Nat) (hk : k < l.length) (r r0 : List Nat), Bson.row e l = some r → Bson.row e (l.take k) = some r0 →
  Bson.nameMay l[k].1 = true ∧ ∃ x, e l[k].2 = some x ∧ r0.length + (l[k].1.size + 2) + x.length ≤ r.length
 | [], _, hk, _, _, _, _ => by simp at hk
 | (s, v) :: l, 0, _, r, r0, hr, h0 => by
  have h0' : Bson.row e [] = some r0 := h0
  rw [Bson.row] at h0'
  cases h0'
  obtain ⟨x, y, h1, h2, h3, rfl⟩ := row_cons hr
  refine ⟨h1, x, h2, ?_⟩
  simp [Bson.bytes_length]; omega
 | (s, v) :: l, k + 1, hk, r, r0, hr, h0 => by
  obtain ⟨x, y, h1, h2, h3, rfl⟩ := row_cons hr
  obtain ⟨x0, y0, k1, k2, k3, rfl⟩ := row_cons (show Bson.row e ((s, v) :: l.take k) = some r0 from h0)
  obtain ⟨h4, z, h5, h6⟩ := row_part e l k (by simpa using hk) y y0 h3 k3
  rw [h2] at k2
  cases k2
  refine ⟨h4, z, h5, ?_⟩
  simp only [List.length_cons, List.length_append, List.getElem_cons_succ]
  omega
theorem named_at (l : List Val) (k : Nat) (hk : k < l.length) : (Bson.named l)[k]'(by rw [Bson.named_length]; exact hk) = (Bson.digits k, l[k]) := by simp [Bson.named]
theorem head_may {s : ByteArray} (h : Bson.nameMay s = true) : headBytes s = some (0 :: (Bson.bytes s ++ [0])) := if_pos h
theorem may_head {s : ByteArray} {l : List Nat} (h : headBytes s = some l) : Bson.nameMay s = true ∧ l.length = s.size + 2 := by
 unfold headBytes at h
 split at h
 ·next h1 => exact ⟨h1, by cases h; simp [Bson.bytes_length]⟩
 ·cases h
theorem below_grow {B : Nat} {a w : World} (h : Below B a w) (os : Array Obj) (hB : B ≤ w.heap.size) : Below B a (Go.Sort.grow w os) :=
 h.trans ⟨rfl, rfl, rfl, by simp [Go.Sort.grow], fun g hg => Array.getElem?_append_left (Nat.lt_of_lt_of_le hg hB)⟩
structure Tabs (w : World) : Prop where
 t8 : Tabs8 w
 p10 : Lib.TabIs Tryd.prog w "internal/strconv.uint64pow10" .u64 Lib.pow10Tab
theorem tab_metered {P : Program} {w w' : World} {nm : String} {gm : Nat} {left : Int} (h : Lib.TabIs P w nm .u64 Lib.pow10Tab) (hM : Mtr w gm left) (hg : w.grownBy w' (some gm)) : Lib.TabIs P w' nm .u64 Lib.pow10Tab := by
 unfold Lib.TabIs World.var? at *
 cases hgn : P.globalNamed nm with
 | none => rw [hgn] at h; cases h
 | some g =>
  rw [hgn] at h
  simp only [Option.bind_some] at h ⊢
  have hlt : g < w.heap.size := by
   refine Nat.lt_of_not_le fun hge => ?_
   rw [Array.getElem?_eq_none hge] at h; cases h
  have hne : g ≠ gm := by
   rintro rfl
   rw [hM] at h
   have h2 : 1 = Lib.pow10Tab.length := by simpa using congrArg Array.size (Option.some.inj h)
   exact absurd h2 (by decide)
  rw [hg.block g hlt (fun e => hne (Option.some.inj e))]
  exact h
theorem Tabs.metered {w w' : World} {gm : Nat} {left : Int} (h : Tabs w) (hM : Mtr w gm left) (hg : w.grownBy w' (some gm)) : Tabs w' := ⟨h.t8.metered hM hg, tab_metered h.p10 hM hg⟩
theorem decDigits_le : ∀ u : Nat, (Lib.decDigits u).length ≤ u + 1 := by
 intro u
 induction u using Nat.strongRecOn with
 | ind u ih =>
  rw [Lib.decDigits]
  split
  ·simp
  ·have := ih (u / 10) (by omega)
   simp only [List.length_append, List.length_cons, List.length_nil]
   omega
theorem itoa_digits (k : Nat) : (⟨(Lib.itoa (k : Int)).toArray⟩ : ByteArray) = Bson.digits k := by
 unfold Bson.digits Lib.itoa
 simp
theorem mitems_any (Q : Nat → Prop) (h d : Nat) (gm : Nat) (depth : Int) (hd0 : 0 ≤ depth) (hd1 : depth ≤ 100)
  (IH : ∀ x v w left, VIn w Q h x v → Mtr w gm left → 0 ≤ left → left ≤ 65536 → Tabs w → Calls Tryd.prog 50 #[.pointer (some ⟨gm, 0, none⟩), v, .int .i64 (depth + 1)] w (MPost gm left (Bson.enc d x) w))
  (w : World) (left : Int) (a : Option Addr) (n c : Nat) (l : List Val) (hn : l.length = n) (hm : n ≤ 140737488355328) (hI : ItemsIn w Q (VIn w Q h) a l) (hM : Mtr w gm left) (hl0 : 0 ≤ left) (hl : left ≤ 65536) (hT : Tabs w) :
  Calls Tryd.prog 66 #[.pointer (some ⟨gm, 0, none⟩), .slice a n c, .int .i64 depth] w (MPost gm left (Bson.row (Bson.enc d) (Bson.named l)) w) := by
 have HN := Lib.hid hn
 have HI := Lib.hid hI
 have HM := Lib.hid hM
 have HT := Lib.hid hT
 have IH := Lib.hid IH
 have hdw : IntKind.i64.wrap (depth + 1) = depth + 1 := IntWalk.i64_in _ (by omega)
 clear hn hI hM hT
 go_enter Tryd.func66, Tryd.ntmps66
 go_wp2_with fail
 go_loopw [11] (fun i wr => ∃ (k : Nat) (q : Int), i = .int .i64 k ∧ k ≤ n ∧ 0 ≤ q ∧ q ≤ left ∧ Hid (∃ r, Bson.row (Bson.enc d) ((Bson.named l).take k) = some r ∧ (r.length : Int) = left - q) ∧ Hid (Mtr wr gm q) ∧ Hid (w.grownBy wr (some gm))) (fun i _ => n - (intOf i).toNat)
 case atStart => exact ⟨0, left, rfl, Nat.zero_le _, hl0, Int.le_refl _, ⟨[], by rw [List.take_zero, Bson.row], by simp⟩, HM, grown_of_below (Below.refl _ w) gm⟩
 case round =>
  obtain ⟨k, q, rfl, hk, hq0, hq1, hR, hMk, hGk⟩ := hrel
  by_cases hlt : k < n
  ·have hkf : k < l.length := by rw [HN.out]; exact hlt
   obtain ⟨g, o, rfl, _, hall⟩ := HI.out.resolve_left (fun e => by rw [e] at hkf; cases hkf)
   obtain ⟨v', hsix, hV⟩ := hall k hkf
   have hV := Lib.hid (VIn.metered HM.out hGk.out hV)
   obtain ⟨q1, q2, q3, a1, n1, c1, a2, n2, c2, a3, n3, c3, rfl⟩ := VIn.form hV.out
   obtain ⟨d0, d1, d2, d3, d4, d5, he6, s0, s1, s2, s3, s4, s5⟩ := HM.out.six hGk.out hsix
   obtain ⟨rfl, rfl, rfl, rfl, rfl, rfl⟩ : d0 = .int .i64 q1 ∧ d1 = .int .i64 q2 ∧ d2 = .string q3 ∧ d3 = .slice a1 n1 c1 ∧ d4 = .slice a2 n2 c2 ∧ d5 = .slice a3 n3 c3 := by
    simp only [Value.agg.injEq, Array.mk.injEq, List.cons.injEq, and_true] at he6
    obtain ⟨e0, e1, e2, e3, e4, e5⟩ := he6
    exact ⟨e0.symm, e1.symm, e2.symm, e3.symm, e4.symm, e5.symm⟩
   have HK := Lib.hid hkf
   have CI := Lib.hid (fun w (ht : Tabs w) => Tryd.strconv_Itoa (k : Int) (by omega) (by omega) w ht.p10)
   rw [itoa_digits] at CI
   have hat := Lib.hid (named_at l k hkf)
   have hdg : Hid ((Bson.digits k).size ≤ 140737488355328) := by
    show _ ≤ _
    have e : (Bson.digits k).size = (Lib.decDigits k).length := by simp [Bson.digits, ByteArray.size]
    have := decDigits_le k
    omega
   clear he6 hall
   go_wp2_with fail
   refine (CI.out _ ((HT.out.metered HM.out hGk.out).metered hMk.out (grown_of_below ((Below.refl _ wr).alloc (Nat.le_refl _) _) gm))).mono ?_
   rintro e w' ⟨rfl, kk, os, hw'⟩
   have hbx := (Boxed.refl wr _ _).step (hw' ▸ below_grow (Go.below_drewN (Below.refl _ _) kk) os (Nat.le_refl _))
   have HB := Lib.hid hbx.below
   have c0 : w'.cell? ⟨wr.heap.size, 0, none⟩ = some (.int .i64 q1) := hbx.cell 0
   have c1' : w'.cell? ⟨wr.heap.size, 1, none⟩ = some (.int .i64 q2) := hbx.cell 1
   have c2' : w'.cell? ⟨wr.heap.size, 2, none⟩ = some (.string q3) := hbx.cell 2
   have c3' : w'.cell? ⟨wr.heap.size, 3, none⟩ = some (.slice a1 n1 c1) := hbx.cell 3
   have c4' : w'.cell? ⟨wr.heap.size, 4, none⟩ = some (.slice a2 n2 c2) := hbx.cell 4
   have c5' : w'.cell? ⟨wr.heap.size, 5, none⟩ = some (.slice a3 n3 c3) := hbx.cell 5
   have hne : wr.heap.size ≠ gm := by have := hMk.out.lt; omega
   clear hbx hw'
   have HT' := Lib.hid (((HT.out.metered HM.out hGk.out).metered hMk.out (grown_of_below HB.out gm)))
   have CN := Lib.hid (mname_any w' gm q (Bson.digits k) (hMk.out.keep HB.out) (by omega) hdg.out HT'.out.t8)
   go_wp2_with fail
   refine CN.out.mono ?_
   rintro e w3 ⟨b, rfl, hg3, hyes, hno⟩
   cases b with
   | false =>
    have HNO := Lib.hid (hno rfl)
    have HG := Lib.hid (grown_then (grown_then hGk.out (grown_of_below HB.out gm)) hg3)
    clear hg3 hyes hno
    go_wp2_with fail
    go_ret
    refine ⟨false, rfl, HG.out, nofun, fun _ => ?_⟩
    rintro ⟨r, hr, hrl⟩
    obtain ⟨r0, hr0, hr0l⟩ := hR.out
    obtain ⟨h1, x, h2, h3⟩ := row_part _ _ k (by rw [Bson.named_length]; exact HK.out) r r0 hr hr0
    simp only [hat.out] at h1 h2 h3
    refine HNO.out ⟨_, head_may h1, ?_⟩
    have := (may_head (head_may h1)).2
    omega
   | true =>
    obtain ⟨hb, hhb, hhl, hM3⟩ := hyes rfl
    have hM3 := Lib.hid hM3
    have HG := Lib.hid (grown_then (grown_of_below HB.out gm) hg3)
    obtain ⟨hmay, hhl2⟩ := may_head hhb
    have hmay := Lib.hid hmay
    have e0 := grown_cell hg3 c0 hne
    have e1 := grown_cell hg3 c1' hne
    have e2 := grown_cell hg3 c2' hne
    have e3 := grown_cell hg3 c3' hne
    have e4 := grown_cell hg3 c4' hne
    have e5 := grown_cell hg3 c5' hne
    have CV := Lib.hid (IH.out l[k] _ w3 (q - hb.length) (VIn.metered hMk.out HG.out hV.out) hM3.out (by omega) (by omega) ((HT.out.metered HM.out hGk.out).metered hMk.out HG.out))
    clear hg3 hyes hno hhb c0 c1' c2' c3' c4' c5'
    go_wp2_with fail
    refine CV.out.mono ?_
    rintro e w4 ⟨b, rfl, hg4, hyes, hno⟩
    have HG4 := Lib.hid (grown_then (grown_then hGk.out HG.out) hg4)
    cases b with
    | false =>
     have HNO := Lib.hid (hno rfl)
     clear hg4 hyes hno
     go_wp2_with fail
     go_ret
     refine ⟨false, rfl, HG4.out, nofun, fun _ => ?_⟩
     rintro ⟨r, hr, hrl⟩
     obtain ⟨r0, hr0, hr0l⟩ := hR.out
     obtain ⟨h1, x, h2, h3⟩ := row_part _ _ k (by rw [Bson.named_length]; exact HK.out) r r0 hr hr0
     simp only [hat.out] at h1 h2 h3
     exact HNO.out ⟨x, h2, by omega⟩
    | true =>
     obtain ⟨x, hx, hxl, hM4⟩ := hyes rfl
     have hM4 := Lib.hid hM4
     have HR : Hid (∃ r, Bson.row (Bson.enc d) ((Bson.named l).take (k + 1)) = some r ∧ (r.length : Int) = left - (q - hb.length - x.length)) := by
      obtain ⟨r0, hr0, hr0l⟩ := hR.out
      obtain ⟨r', h1, h2⟩ := row_snoc (Bson.enc d) (Bson.named l) k (by rw [Bson.named_length]; exact HK.out) r0 x hr0 (by rw [hat.out]; exact hmay.out) (by rw [hat.out]; exact hx)
      simp only [hat.out] at h2
      exact ⟨r', h1, by omega⟩
     clear hg4 hyes hno hx
     go_wp2_with fail
     go_roundw
     case rel => exact ⟨k + 1, q - hb.length - x.length, by go_num, by omega, by omega, by omega, HR, hM4, HG4⟩
     case measure => simp [intOf]; omega
  ·obtain rfl : n = k := by omega
   go_wp2_with fail
   go_ret
   obtain ⟨r, hr, hrl⟩ := hR.out
   refine ⟨true, rfl, hGk.out, fun _ => ⟨r, ?_, by omega, ?_⟩, nofun⟩
   ·rw [List.take_of_length_le (by rw [Bson.named_length, HN.out]; exact Nat.le_refl _)] at hr
    exact hr
   ·rw [hrl, show left - (left - q) = q by omega]
    exact hMk.out
end Go.Proofs.YtngllchoiffniaaDoor
end
