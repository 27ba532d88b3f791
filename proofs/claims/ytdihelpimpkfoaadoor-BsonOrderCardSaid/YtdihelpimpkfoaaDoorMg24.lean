/- BsonPut, BsonTab, BsonPutF, OctOpen, BsonPutD. -/
import Derived.Test.YtdihelpimpkfoaaDoorCards
import Derived.Test.YtdihelpimpkfoaaDoorTie
import Derived.Lib.LaidU8T
import Derived.Lib.LaidTab
import Derived.Deep.DeepWitnessRowRef
import Derived.SizedLaws
import Derived.Lay
import Derived.Lib.AppendStr
import Derived.Test.YtdihelpimpkfoaaDoorMg12
import Derived.Test.YtdihelpimpkfoaaDoorMg23
import Derived.Test.YtdihelpimpkfoaaDoorMg0
import Derived.Test.YtdihelpimpkfoaaDoorMg9
import Derived.Test.YtdihelpimpkfoaaDoorMg7
set_option maxRecDepth 100000
section
namespace Go.Proofs.YtdihelpimpkfoaaDoor
open Go.RowKit
open Seal
open Bson (Val)
/-- What is put stands behind the row. -/
def PutPost (w : World) (base : Nat) (bs : List Nat) (e : Ending) (w' : World) : Prop := ∃ v', e = .returned v' ∧ Own8 w' base v' bs ∧ PutRel base w w'
set_option maxRecDepth 100000 in
theorem codeOf_any (k : Int) (w : World) (h0 : 1 ≤ k) (h1 : k ≤ 12) : Calls Tryd.prog 33 #[.int .i64 k] w fun e w' => e = .returned (.int .u8 (Bson.code k : Nat)) ∧ w = w' := by
  have hk : k = 1 ∨ k = 2 ∨ k = 3 ∨ k = 4 ∨ k = 5 ∨ k = 6 ∨ k = 7 ∨ k = 8 ∨ k = 9 ∨ k = 10 ∨ k = 11 ∨ k = 12 := by omega
  clear h0 h1
  rcases hk with rfl | rfl | rfl | rfl | rfl | rfl | rfl | rfl | rfl | rfl | rfl | rfl
  all_goals
    go_enter Tryd.func33, Tryd.ntmps33
    go_wp2_with fail
    go_ret
    exact ⟨rfl, rfl⟩
theorem Own8.more {w' : World} {base : Nat} {v' : Value} {bs cs : List Nat} {m : Nat} (ho : w'.ownsRow base 5 1 v' (bs.length + m) (u8s bs ++ u8s cs)) (hm : cs.length = m) (hs : base ≤ w'.heap.size) : Own8 w' base v' (bs ++ cs) := by
  refine ⟨?_, hs⟩
  rw [List.length_append, hm, ← u8s_snoc]
  exact ho
theorem close_list (bs h4 r x4 : List Nat) (C : List Value) (n k : Nat) (hC : C.take (n + 1) = u8s (bs ++ (h4 ++ r)) ++ [.int .u8 0]) (hk : k = bs.length) (h4l : h4.length = 4) (hx : x4.length = 4) (hn : n = bs.length + (4 + r.length)) :
    (C.take k ++ u8s x4 ++ C.drop (k + 4)).take (n + 1) = u8s (bs ++ (x4 ++ (r ++ [0]))) := by
  have e0 : u8s (bs ++ (h4 ++ r)) ++ [.int .u8 0] = u8s bs ++ (u8s h4 ++ u8s (r ++ [0])) := by
    rw [← u8s_snoc, ← u8s_snoc, ← u8s_snoc, List.append_assoc, List.append_assoc]; rfl
  have e1 : C = u8s bs ++ (u8s h4 ++ (u8s (r ++ [0]) ++ C.drop (n + 1))) := by
    conv => lhs; rw [← List.take_append_drop (n + 1) C]
    rw [hC, e0]; simp only [List.append_assoc]
  have hb : (u8s bs).length = k := by rw [hk]; simp [u8s]
  have h4b : (u8s bs ++ u8s h4).length = k + 4 := by rw [List.length_append, hb]; simp [u8s, h4l]
  have e2 : C.take k = u8s bs := by rw [e1]; exact List.take_left' hb
  have e3 : C.drop (k + 4) = u8s (r ++ [0]) ++ C.drop (n + 1) := by
    conv => lhs; rw [e1, ← List.append_assoc]
    exact List.drop_left' h4b
  rw [e2, e3, ← u8s_snoc bs, ← u8s_snoc x4]
  have hl : (u8s bs ++ u8s x4 ++ u8s (r ++ [0])).length = n + 1 := by simp [u8s, hx]; omega
  rw [← List.append_assoc, List.take_left' hl, List.append_assoc]
set_option maxRecDepth 100000 in
set_option maxHeartbeats 1000000 in
theorem closeDoc_any (w : World) (base : Nat) (v : Value) (bs r : List Nat) (h4 : List Nat) (hv : Own8 w base v (bs ++ (h4 ++ r))) (h4l : h4.length = 4) (hl : bs.length + (4 + r.length) ≤ 1000000) :
    Calls Tryd.prog 25 #[v, .int .i64 (bs.length : Int)] w (PutPost w base (bs ++ Bson.wrap r)) := by
  obtain ⟨i0, hi, hz0, hz1, hz2⟩ := info_parts infoU8
  obtain ⟨n, hn⟩ : ∃ n, n = (bs ++ (h4 ++ r)).length := ⟨_, rfl⟩
  have hnl : n = bs.length + (4 + r.length) := by rw [hn]; simp [h4l]
  have hown := hv.own
  have hsz := hv.sz
  obtain ⟨a0, c0, rfl, -, -⟩ := hv.shape
  rw [← hn] at hown ⊢
  obtain ⟨from_, hfr⟩ : ∃ k, k = bs.length := ⟨_, rfl⟩
  have HFR := Lib.hid hfr
  rw [← hfr] at hnl hl ⊢
  have HNL := Lib.hid hnl
  have hn4 : from_ + 4 ≤ n := by omega
  have hnm : n ≤ 1000000 := by omega
  clear hn hfr hv hnl hl
  go_enter Tryd.func25, Tryd.ntmps25
  go_wp2_with (at_builtin; refine wpList_append_own _ rfl _ _ 22 rfl base 5 i0 (.int .u8 0) 1 1 Tryd.underlying22 hi hz0 hz1 hz2 rfl (by decide) _ n _ rfl (hown.alloc _) ⟨w.heap.size, 0, none⟩ 1 1 [.int .u8 0] rfl rfl ?c1 ?c2 ?c4 ?c5 ?c6 ?_)
  case c1 => exact oneNew8 _ _
  case c2 => intro u hu; simp at hu; subst hu; rfl
  case c4 => unfold maxLen; omega
  case c5 => omega
  case c6 => simp; omega
  intro v1 w1 hown1 hgrow1 _
  have hB1 : PutRel base w w1 := (PutRel.new ((Below.refl _ w).alloc (Nat.le_refl _) _) hsz).trans (PutRel.own (hown.alloc _) (by simp; omega) hgrow1)
  have hs1 : base ≤ w1.heap.size := Nat.le_trans hsz hB1.below.size
  obtain ⟨hlen1, h1⟩ := hown1
  rcases h1 with ⟨_, h1⟩ | ⟨g, cap, cur, rfl, hbg, hg, hnc, hcm, hcs, htk⟩
  · omega
  have hcs' : cur.size = cap := by omega
  have HG := Lib.hid hg
  have HTK : Hid (cur.toList.take (n + 1) = u8s (bs ++ (h4 ++ r)) ++ [.int .u8 0]) := by
    show _ = _
    rw [← htk, Nat.mul_one]
  have HB1 := Lib.hid hB1
  have hcap : cap ≤ 9223372036854775807 := by unfold maxLen at hcm; omega
  have CP := Lib.hid (putNumber_room w1 g from_ cap cur ((n : Int) + 1 - (from_ : Int)) 4 HG.out (by omega) hcs' (by decide) hcm)
  have hfc : ¬ cap = 0 := by omega
  clear hg htk hlen1 hgrow1 hown hB1 hcs
  go_wp2_with fail
  refine CP.out.mono ?_
  rintro e w2 ⟨⟨v9, rfl⟩, hg2, hgr2⟩
  have HG2 := Lib.hid hg2
  have HR2 := Lib.hid hgr2
  clear hg2 hgr2
  go_wp2_with fail
  go_ret
  have hx : (n : Int) + 1 - (from_ : Int) = (r.length : Int) + 5 := by have := HNL.out; omega
  have hwl : (bs ++ Bson.wrap r).length = n + 1 := by
    have := HNL.out
    have := HFR.out
    simp [Bson.wrap, Bson.leI_length]; omega
  have HL := Lib.hid (close_list bs h4 r (Bson.leI ((r.length : Int) + 5) 4) cur.toList n from_ HTK.out HFR.out h4l (Bson.leI_length _ _) (by rw [← HFR.out]; exact HNL.out))
  have hnew : (cur.toList.take from_ ++ u8s (Bson.putB ((n : Int) + 1 - (from_ : Int)) 4) ++ cur.toList.drop (from_ + 4)).length = cap := by
    simp [u8s, Bson.putB_length]; omega
  have hO : Own8 w2 base (.slice (some ⟨g, 0, none⟩) (n + 1) cap) (bs ++ Bson.wrap r) := by
    refine ⟨⟨by simp [u8s], .inr ⟨g, cap, _, by rw [hwl], hbg, HG2.out, by rw [hwl]; exact hnc, hcm, by rw [Nat.mul_one]; simpa using hnew, ?_⟩⟩, Nat.le_trans hs1 HR2.out.size⟩
    rw [hwl, Nat.mul_one, Bson.putB_leI, hx]
    exact HL.out
  refine ⟨_, rfl, hO, HB1.out.trans ⟨⟨HR2.out.os, HR2.out.tape, HR2.out.output, HR2.out.size, fun j hj => HR2.out.block j (by omega) (fun e => by have := Option.some.inj e; omega)⟩, fun j cs t fr hn hb => (HR2.out.block j (Array.getElem?_eq_some_iff.1 hb).1 (fun e => ?_)).trans hb⟩⟩
  obtain rfl : g = j := Option.some.inj e.symm
  rw [HG.out] at hb
  injection hb with hb
  injection hb with _ h3 _
  exact hn h3.symm
end Go.Proofs.YtdihelpimpkfoaaDoor
end
section
namespace Go.Proofs.YtdihelpimpkfoaaDoor
open Go.ChangeShapes Go.WideShapes Go.ChangeAt Go.RowKit
def laidList5 : List (String × DataW Unit) := [("math/bits.deBruijn32tab", Rows.laid_math_bits_deBruijn32tab), ("math/bits.deBruijn64tab", Rows.laid_math_bits_deBruijn64tab), ("internal/strconv.uint64pow10", Rows.laid_internal_strconv_uint64pow10), ("unicode/utf8.acceptRanges", Rows.laid_unicode_utf8_acceptRanges), ("unicode/utf8.first", Rows.laid_unicode_utf8_first)]
theorem laidList5_eq : laidList5 = [("math/bits.deBruijn32tab", Rows.laid_math_bits_deBruijn32tab), ("math/bits.deBruijn64tab", Rows.laid_math_bits_deBruijn64tab), ("internal/strconv.uint64pow10", Lib.tabData .u64 Lib.pow10Tab), ("unicode/utf8.acceptRanges", Lib.acceptData), ("unicode/utf8.first", Lib.firstData)] := by kernel_rfl
noncomputable def laidWorld5 (os : Os) : World := World.laidAll Tryd.prog os laidList5
theorem laid_met_all5 (os : Os) (args : Array Value) : laidMet Tryd.prog laidList5 ((laidWorld5 os).forCall (fun _ _ => 0) ⟨#[], args, []⟩).memory :=
  laidMet_laidAll args (by kernel_rfl) (by kernel_rfl)
set_option maxRecDepth 100000 in
theorem tabs_of {W : World} (h : laidMetH Tryd.prog laidList5 W) : Tabs W := by
  rw [laidList5_eq] at h
  have U := utf8Tabs_of_readsT (Go.Proofs.U8Types.of196 Tryd.lays196) ⟨by kernel_rfl, by kernel_rfl, by kernel_rfl, by kernel_rfl, by kernel_rfl, by kernel_rfl, by kernel_rfl⟩ (Lib.laidMet.reads h (.tail _ (.tail _ (.tail _ (.tail _ (.head _)))))) (Lib.laidMet.reads h (.tail _ (.tail _ (.tail _ (.head _)))))
  refine ⟨⟨fun c hc => U.1 c hc, fun i hi => ?_, fun i hi => ?_⟩, ?_⟩
  · have h1 := (U.2 i hi).1
    rw [Nat.mul_comm] at h1
    exact h1
  · have h1 := (U.2 i hi).2
    rw [Nat.mul_comm] at h1
    exact h1
  · obtain ⟨g, t, cs, fuel, p, hg, hty, hvar, hd⟩ := Lib.laidMet.reads h (.tail _ (.tail _ (.head _)))
    have hg2 : Tryd.prog.globalNamed "internal/strconv.uint64pow10" = some 3 := by kernel_rfl
    have ht2 : (Tryd.prog.globals[3]?).map (·.type) = some 111 := by kernel_rfl
    obtain rfl := Option.some.inj (hg2.symm.trans hg)
    obtain rfl := Option.some.inj (ht2.symm.trans hty)
    unfold Lib.TabIs
    rw [hvar, ← Lib.cells_of_tab Tryd.underlying111 Tryd.underlying94 (by kernel_rfl) (by kernel_rfl) hd]
end Go.Proofs.YtdihelpimpkfoaaDoor
end
section
namespace Go.Proofs.YtdihelpimpkfoaaDoor
open Go.RowKit
open Seal
open Bson (Val)
theorem VIn.based {w w' : World} {Q : Nat → Prop} {h base : Nat} {x : Val} {v : Value} (hv : VIn w Q h x v) (hQ : ∀ g, Q g → g < base) (hb : Below base w w') : VIn w' Q h x v :=
  hv.kept (fun g hg _ => hb.block g (hQ g hg)) (fun _ z => z)
/-- What putValue does, with so many documents left. -/
def PutVal (d : Nat) : Prop := ∀ (Q : Nat → Prop) (h : Nat) (x : Val) (v : Value) (w : World) (base : Nat) (b : Value) (bs xs : List Nat), VIn w Q h x v → (∀ g, Q g → g < base) → Own8 w base b bs → Bson.enc d x = some xs → bs.length + xs.length ≤ 900000 →
  (∀ W, Below base w W → Lib.TabIs Tryd.prog W "internal/strconv.uint64pow10" .u64 Lib.pow10Tab) → Calls Tryd.prog 34 #[b, v] w (PutPost w base (bs ++ xs))
theorem enc_kind : ∀ {d : Nat} {x : Val} {xs : List Nat}, Bson.enc d x = some xs → 1 ≤ x.kind ∧ x.kind ≤ 12 := by
  intro d x xs h
  by_cases h6 : x.kind = 6
  · omega
  by_cases h7 : x.kind = 7
  · omega
  rw [Bson.enc_other d x h6 h7] at h
  unfold Bson.scalar Bson.scalarP at h
  refine Decidable.byContradiction fun hc => ?_
  rw [if_neg (by omega), if_neg (by omega), if_neg (by omega), if_neg (by omega), if_neg (by omega), if_neg (by omega), if_neg (by omega)] at h
  cases h
theorem code_lt (k : Int) : Bson.code k < 256 := by
  unfold Bson.code
  repeat (split; decide)
  decide
set_option maxRecDepth 100000 in
set_option maxHeartbeats 1000000 in
theorem putField_any (d : Nat) (IH : PutVal d) (Q : Nat → Prop) (h : Nat) (x : Val) (v : Value) (nm : ByteArray) (w : World) (base : Nat) (b : Value) (bs xs : List Nat) (hv : VIn w Q h x v) (hQ : ∀ g, Q g → g < base) (hb : Own8 w base b bs) (he : Bson.enc d x = some xs)
    (hl : bs.length + (2 + nm.size + xs.length) ≤ 900000) (hT : ∀ W, Below base w W → Lib.TabIs Tryd.prog W "internal/strconv.uint64pow10" .u64 Lib.pow10Tab) :
    Calls Tryd.prog 24 #[b, .string nm, v] w (PutPost w base (bs ++ (Bson.code x.kind :: (Bson.bytes nm ++ (0 :: xs))))) := by
  obtain ⟨i0, hi, hz0, hz1, hz2⟩ := info_parts infoU8
  obtain ⟨hk0, hk1⟩ := enc_kind he
  cases h with
  | zero => exact hv.elim
  | succ h =>
  obtain ⟨ba, fa, la, bc, fc, lc, rfl, -⟩ := id hv
  have HV := Lib.hid hv
  unfold agg at HV ⊢
  have IH := Lib.hid IH
  have HQ := Lib.hid hQ
  have HE := Lib.hid he
  have HT := Lib.hid hT
  have hown := hb.own
  have hsz := hb.sz
  have hbl := hb.shape
  obtain ⟨a0, c0, rfl, -, -⟩ := hbl
  obtain ⟨n, hn⟩ : ∃ n, n = bs.length := ⟨_, rfl⟩
  have HN := Lib.hid hn
  rw [← hn] at hown hl ⊢
  obtain ⟨kd, hkd⟩ : ∃ k, k = x.kind := ⟨_, rfl⟩
  rw [← hkd] at HV hk0 hk1 ⊢
  have HKD := Lib.hid hkd
  have hc256 := code_lt kd
  obtain ⟨W1, hW1⟩ : ∃ W, W = w.alloc (.cells #[.int .i64 kd, .int .i64 x.n, .string x.s, .slice ba x.b.length bc, .slice fa x.f.length fc, .slice la x.l.length lc] 28) := ⟨_, rfl⟩
  have HBX : Hid (W1.heap[w.heap.size]? = some (.cells #[.int .i64 kd, .int .i64 x.n, .string x.s, .slice ba x.b.length bc, .slice fa x.f.length fc, .slice la x.l.length lc] 28 (0, 0))) := by rw [hW1]; exact heap_alloc_new w _
  have HR1 : Hid (PutRel base w W1) := by rw [hW1]; exact PutRel.new ((Below.refl _ w).alloc (Nat.le_refl _) _) hsz
  have hown1 : W1.ownsRow base 5 1 (.slice a0 n c0) n (u8s bs) := by rw [hW1]; exact hown.alloc _
  have hs1 : base ≤ W1.heap.size := Nat.le_trans hsz HR1.out.below.size
  have CC := fun W => codeOf_any kd W hk0 hk1
  have q0 := cell_of_row _ _ 0 _ _ _ HBX.out
  have HW1 := Lib.hid hW1
  clear hW1 hn hkd hown hb hv hQ he hT
  go_enter Tryd.func24, Tryd.ntmps24
  go_upto_region 1 with fail
  rw [← HW1.out]
  go_wp2_with fail
  refine (CC W1).mono ?_
  rintro e w' ⟨rfl, rfl⟩
  rename_i K1 hK1 K hK
  refine hK _ _ ?_
  go_wp2_with (at_builtin; refine wpList_append_own _ rfl _ _ 22 rfl base 5 i0 (.int .u8 0) 1 1 Tryd.underlying22 hi hz0 hz1 hz2 rfl (by decide) _ n _ rfl (hown1.alloc _) ⟨W1.heap.size, 0, none⟩ 1 1 [.int .u8 (Bson.code kd : Nat)] rfl rfl ?c1 ?c2 ?c4 ?c5 ?c6 ?_)
  case c1 => exact oneNew8 _ _
  case c2 => intro u hu; simp at hu; subst hu; rfl
  case c4 => unfold maxLen; omega
  case c5 => omega
  case c6 => simp; omega
  intro v3 W3 hown3 hg3 _
  have HR3 : Hid (PutRel base W1 W3) := (PutRel.new ((Below.refl _ W1).alloc (Nat.le_refl _) _) hs1).trans (PutRel.own (hown1.alloc _) (by simp; omega) hg3)
  have hs3 : base ≤ W3.heap.size := Nat.le_trans hs1 HR3.out.below.size
  go_wp2_with (at_builtin; refine Lib.wpList_append_own_string _ rfl _ _ 22 9 rfl base 5 i0 Tryd.underlying22 Tryd.underlying9 hi hz0 hz1 hz2 v3 (n + 1) _ rfl hown3 nm rfl ?c4 ?c5 ?c6 ?_)
  case c4 => unfold maxLen; omega
  case c5 => omega
  case c6 => exact hs3
  intro v4 W4 hown4 hg4 _
  have HR4 : Hid (PutRel base W3 W4) := PutRel.own hown3 hs3 hg4
  have hs4 : base ≤ W4.heap.size := Nat.le_trans hs3 HR4.out.below.size
  clear hg3 hg4 hown3 q0
  go_wp2_with (at_builtin; refine wpList_append_own _ rfl _ _ 22 rfl base 5 i0 (.int .u8 0) 1 1 Tryd.underlying22 hi hz0 hz1 hz2 rfl (by decide) _ (n + 1 + nm.size) _ rfl (hown4.alloc _) ⟨W4.heap.size, 0, none⟩ 1 1 [.int .u8 0] rfl rfl ?c1 ?c2 ?c4 ?c5 ?c6 ?_)
  case c1 => exact oneNew8 _ _
  case c2 => intro u hu; simp at hu; subst hu; rfl
  case c4 => unfold maxLen; omega
  case c5 => omega
  case c6 => simp; omega
  intro v5 W5 hown5 hg5 _
  have HR5 : Hid (PutRel base W4 W5) := (PutRel.new ((Below.refl _ W4).alloc (Nat.le_refl _) _) hs4).trans (PutRel.own (hown4.alloc _) (by simp; omega) hg5)
  have hs5 : base ≤ W5.heap.size := Nat.le_trans hs4 HR5.out.below.size
  have HR := Lib.hid (HR1.out.trans (HR3.out.trans (HR4.out.trans HR5.out)))
  have HB5 := Lib.hid ((HR3.out.trans (HR4.out.trans HR5.out)).keep _ _ _ _ (by decide) HBX.out)
  have q0 := cell_of_row _ _ 0 _ _ _ HB5.out
  have q1 := cell_of_row _ _ 1 _ _ _ HB5.out
  have q2 := cell_of_row _ _ 2 _ _ _ HB5.out
  have q3 := cell_of_row _ _ 3 _ _ _ HB5.out
  have q4 := cell_of_row _ _ 4 _ _ _ HB5.out
  have q5 := cell_of_row _ _ 5 _ _ _ HB5.out
  have HO5 : Hid (Own8 W5 base v5 (bs ++ (Bson.code kd :: (Bson.bytes nm ++ [0])))) := by
    refine ⟨?_, hs5⟩
    have e : (bs ++ (Bson.code kd :: (Bson.bytes nm ++ [0]))).length = n + 1 + nm.size + 1 := by simp [Bson.bytes_length]; have := HN.out; omega
    rw [e, ← u8s_snoc]
    rw [strCells_u8s] at hown5
    have e2 : u8s (Bson.code kd :: (Bson.bytes nm ++ [0])) = [.int .u8 (Bson.code kd : Nat)] ++ u8s (Bson.bytes nm) ++ [.int .u8 0] := by simp [u8s, u8]
    rw [e2]
    simpa using hown5
  have CP := Lib.hid (IH.out Q (h + 1) x _ W5 base v5 _ xs (HV.out.based HQ.out HR.out.below) HQ.out HO5.out HE.out (by simp [Bson.bytes_length]; have := HN.out; omega) (fun W hb => HT.out W (HR.out.below.trans hb)))
  clear hown4 hown5 hg5 hc256
  go_wp2_with fail
  refine CP.out.mono ?_
  rintro e W6 ⟨v6, rfl, hO6, hR6⟩
  have HO6 := Lib.hid hO6
  have HR6 := Lib.hid (HR.out.trans hR6)
  clear hO6 hR6
  go_wp2_with fail
  go_ret
  refine ⟨v6, rfl, ?_, HR6.out⟩
  have h1 := HO6.out
  rw [List.append_assoc] at h1
  simpa using h1
end Go.Proofs.YtdihelpimpkfoaaDoor
end
section
namespace Go.Proofs.YtdihelpimpkfoaaDoor
open Go.ChangeShapes Go.WideShapes Go.ChangeAt Go.RowKit
theorem cellsU8o : Tryd.prog.cellsOf 5 = 1 := by kernel_rfl
set_option maxRecDepth 100000 in
/-- A slice of bytes that comes in: the bytes that it reads as. -/
theorem open_octets5 {H : Type} {enc : TypeId × Value → H} {W : World} {base : Nat} {v : Value} {d : DataW H} {ps : List MemPlace} (hval : Value.okWide Tryd.prog W .any base 22 v)
    (hd : DataW.Trod enc Tryd.prog W 0 (fun _ => true) true 22 v d ps) :
    ∃ (a : Option Addr) (len cap : Nat) (l : List Nat), v = .slice a len cap ∧ l.length = len ∧ Seal.Oct l ∧ SliceIs W a l ∧ len ≤ cap ∧ cap ≤ 9223372036854775807 := by
  obtain ⟨a0, len, cap, rfl⟩ := okWide_slice Tryd.underlying22 hval
  obtain ⟨fuel, hf⟩ := hd
  rcases open_ints Tryd.underlying22 Tryd.underlying5 cellsU8o hf with ⟨hcs, hx⟩ | ⟨a, len', cap', zs, hcs, _, hl, hm, hz, hx, hcell, hwz⟩
  · simp [Value.cells] at hcs
    obtain ⟨rfl, rfl, rfl⟩ := hcs
    exact ⟨none, 0, 0, [], rfl, rfl, (fun c hc => by cases hc), .inl rfl, Nat.le_refl _, by omega⟩
  · simp [Value.cells] at hcs
    obtain ⟨rfl, rfl, rfl⟩ := hcs
    simp only [if_true] at hz
    have hm' : cap ≤ 9223372036854775807 := hm
    have hwf : ∀ j, j < zs.length → 0 ≤ zs.getD j 0 ∧ zs.getD j 0 < 256 := fun j hj => by
      rw [List.getD_eq_getElem?_getD, List.getElem?_eq_getElem hj]
      exact u8_wf (hwz _ (List.getElem_mem hj))
    refine ⟨some a, len, cap, (zs.take len).map Int.toNat, rfl, by simp; omega, ?_, ?_, hl, hm'⟩
    · intro c hc
      obtain ⟨z, hzm, rfl⟩ := List.mem_map.1 hc
      have := u8_wf (hwz z (List.mem_of_mem_take hzm))
      omega
    · by_cases h0 : len = 0
      · subst h0; exact .inl rfl
      · obtain ⟨b, off, spot⟩ := a
        have hspot : spot = none := by simpa [Addr.add] using World.cell?_spot (hcell 0 (by omega))
        subst hspot
        refine .inr ⟨b, off, rfl, fun j hj => ?_⟩
        simp at hj
        have hw := hwf j (by omega)
        have := hcell j (by omega)
        rw [show (⟨b, off, none⟩ : Addr).add j = ⟨b, off + j, none⟩ by (unfold Addr.add; split <;> simp_all)] at this
        rw [this]
        have e : (((zs.take len).map Int.toNat).getD j 0 : Nat) = (zs.getD j 0).toNat := by
          simp [List.getD_eq_getElem?_getD, show j < len by omega, List.getElem?_eq_getElem (show j < zs.length by omega)]
        rw [e, Int.toNat_of_nonneg hw.1]
end Go.Proofs.YtdihelpimpkfoaaDoor
end
section
namespace Bson
open Go
theorem row_next (e : Val → Option (List Nat)) : ∀ (l : List (ByteArray × Val)) (k : Nat) (hk : k < l.length) (r x : List Nat), row e (l.take k) = some r → nameMay l[k].1 = true → e l[k].2 = some x →
    row e (l.take (k + 1)) = some (r ++ (code l[k].2.kind :: (bytes l[k].1 ++ (0 :: x))))
  | [], _, hk, _, _, _, _, _ => by simp at hk
  | (s, v) :: l, 0, _, r, x, hr, hn, hx => by
    rw [List.take_zero, row] at hr
    obtain rfl := Option.some.inj hr
    have hn' : nameMay s = true := hn
    have hx' : e v = some x := hx
    show row e ((s, v) :: l.take 0) = _
    rw [List.take_zero, row, hn', hx', row]
    simp
  | (s, v) :: l, k + 1, hk, r, x, hr, hn, hx => by
    have hk' : k < l.length := by simpa using hk
    rw [List.take_succ_cons, row] at hr
    rw [List.take_succ_cons, row]
    cases hm : nameMay s with
    | false => rw [hm] at hr; cases hr
    | true =>
      cases hv : e v with
      | none => rw [hm, hv] at hr; cases hr
      | some xv =>
        cases hr2 : row e (l.take k) with
        | none => rw [hm, hv, hr2] at hr; cases hr
        | some r2 =>
          rw [hm, hv, hr2] at hr
          obtain rfl := Option.some.inj hr
          have := row_next e l k hk' r2 x hr2 (by simpa using hn) (by simpa using hx)
          rw [this]
          simp
end Bson
namespace Go.Proofs.YtdihelpimpkfoaaDoor
open Go.RowKit
open Seal
open Bson (Val)
theorem cell_based {w w' : World} {base g o : Nat} {v : Value} (h : w.cell? ⟨g, o, none⟩ = some v) (hb : Below base w w') (hg : g < base) : w'.cell? ⟨g, o, none⟩ = some v :=
  (World.cell?_of_block (a := ⟨g, o, none⟩) (hb.block g hg)).trans h
set_option maxRecDepth 100000 in
set_option maxHeartbeats 2000000 in
theorem putDoc_any (d : Nat) (IH : PutVal d) (Q : Nat → Prop) (h : Nat) (a : Option Addr) (n c : Nat) (f : List (ByteArray × Val)) (w : World) (base : Nat) (b : Value) (bs r : List Nat) (hn : f.length = n) (hnm : n ≤ 1172812402961) (hF : FieldsIn w Q (VIn w Q h) a f) (hQ : ∀ g, Q g → g < base) (hb : Own8 w base b bs) (he : Bson.row (Bson.enc d) f = some r)
    (hl : bs.length + (5 + r.length) ≤ 900000) (hT : ∀ W, Below base w W → Lib.TabIs Tryd.prog W "internal/strconv.uint64pow10" .u64 Lib.pow10Tab) :
    Calls Tryd.prog 14 #[b, .slice a n c] w (PutPost w base (bs ++ Bson.wrap r)) := by
  have HN := Lib.hid hn
  have IH := Lib.hid IH
  have HQ := Lib.hid hQ
  have HE := Lib.hid he
  have HT := Lib.hid hT
  have HF := Lib.hid hF
  obtain ⟨a0, c0, rfl, -, -⟩ := hb.shape
  obtain ⟨m, hm⟩ : ∃ m, m = bs.length := ⟨_, rfl⟩
  have HM := Lib.hid hm
  rw [← hm] at hb hl ⊢
  have C1 := Lib.hid (putNumber_own w base _ bs 0 4 hb (by decide) (by rw [← hm]; omega))
  have h4 : Hid ((Bson.putB 0 4).length = 4) := Bson.putB_length _ _
  obtain ⟨p4, hp4⟩ : ∃ p, p = Bson.putB 0 4 := ⟨_, rfl⟩
  rw [← hp4] at C1 h4
  clear hn hQ he hT hF hm hp4 hb
  go_enter Tryd.func14, Tryd.ntmps14
  go_wp2_with fail
  refine C1.out.mono ?_
  rintro e w1 ⟨v1, rfl, hO1, hR1⟩
  have HO1 := Lib.hid hO1
  have HR1 := Lib.hid hR1
  clear hO1 hR1
  go_wp2_with fail
  go_loopw [0, 14] (fun u i wr => ∃ (k : Nat) (v : Value), i = .int .i64 k ∧ v = u ∧ k ≤ n ∧ Hid (∃ rk, Bson.row (Bson.enc d) (f.take k) = some rk ∧ rk.length ≤ r.length ∧ Own8 wr base v (bs ++ (p4 ++ rk))) ∧ Hid (PutRel base w wr)) (fun _ i _ => n - (intOf i).toNat)
  case atStart => exact ⟨0, v1, rfl, rfl, Nat.zero_le _, ⟨[], by rw [List.take_zero, Bson.row], Nat.zero_le _, by rw [List.append_nil]; exact HO1.out⟩, HR1⟩
  case round =>
    obtain ⟨k, v, rfl, rfl, hk, HK, HR⟩ := hrel
    by_cases hlt : k < n
    · have hkf : k < f.length := by rw [HN.out]; exact hlt
      obtain ⟨rk, hrk, hrl, hO⟩ := HK.out
      obtain ⟨g, o, rfl, hqg, hall⟩ := HF.out.resolve_left (fun e => by rw [e] at hkf; simp at hkf)
      obtain ⟨hnm, hnl, v', hsix, hV⟩ := hall k hkf
      obtain ⟨hmay, xs, hxs, hxl⟩ := row_part (Bson.enc d) f k hkf r rk HE.out hrk
      have HNX := Lib.hid (Bson.row_next (Bson.enc d) f k hkf rk xs hrk hmay hxs)
      obtain ⟨q1, q2, q3, a1, n1, c1, a2, n2, c2, a3, n3, c3, rfl⟩ := VIn.form hV
      obtain ⟨d0, d1, d2, d3, d4, d5, he6, s0, s1, s2, s3, s4, s5⟩ := hsix
      obtain ⟨rfl, rfl, rfl, rfl, rfl, rfl⟩ : d0 = .int .i64 q1 ∧ d1 = .int .i64 q2 ∧ d2 = .string q3 ∧ d3 = .slice a1 n1 c1 ∧ d4 = .slice a2 n2 c2 ∧ d5 = .slice a3 n3 c3 := by
        simp only [Value.agg.injEq, Array.mk.injEq, List.cons.injEq, and_true] at he6
        obtain ⟨e0, e1, e2, e3, e4, e5⟩ := he6
        exact ⟨e0.symm, e1.symm, e2.symm, e3.symm, e4.symm, e5.symm⟩
      have hgb := HQ.out g hqg
      have z0 := cell_based hnm HR.out.below hgb
      have z1 := cell_based s0 HR.out.below hgb
      have z2 := cell_based s1 HR.out.below hgb
      have z3 := cell_based s2 HR.out.below hgb
      have z4 := cell_based s3 HR.out.below hgb
      have z5 := cell_based s4 HR.out.below hgb
      have z6 := cell_based s5 HR.out.below hgb
      have hsb := hO.sz
      have HV := Lib.hid hV
      have HXS := Lib.hid hxs
      have HBX : Hid (PutRel base wr (wr.alloc (.cells #[.string f[k].1, .int .i64 q1, .int .i64 q2, .string q3, .slice a1 n1 c1, .slice a2 n2 c2, .slice a3 n3 c3] 35))) := PutRel.new ((Below.refl _ wr).alloc (Nat.le_refl _) _) hsb
      have CF := Lib.hid (putField_any d IH.out Q h f[k].2 _ f[k].1 _ base v (bs ++ (p4 ++ rk)) xs (hV.based HQ.out (HR.out.trans HBX.out).below) HQ.out (hO.below ((Below.refl _ wr).alloc (Nat.le_refl _) (.cells #[.string f[k].1, .int .i64 q1, .int .i64 q2, .string q3, .slice a1 n1 c1, .slice a2 n2 c2, .slice a3 n3 c3] 35))) hxs
        (by simp only [List.length_append]; have := h4.out; have := HM.out; omega) (fun W hb => HT.out W ((HR.out.trans HBX.out).below.trans hb)))
      generalize f[k].1 = nm at *
      clear s0 s1 s2 s3 s4 s5 hnm he6 hall hsb hV hxs
      go_wp2_with fail
      refine CF.out.mono ?_
      rintro e w2 ⟨v2, rfl, hO2, hR2⟩
      have HR2 := Lib.hid (HR.out.trans (HBX.out.trans hR2))
      have HK2 : Hid (∃ rk, Bson.row (Bson.enc d) (f.take (k + 1)) = some rk ∧ rk.length ≤ r.length ∧ Own8 w2 base v2 (bs ++ (p4 ++ rk))) := by
        refine ⟨_, HNX.out, ?_, ?_⟩
        · simp [Bson.bytes_length]; omega
        · have h1 := hO2
          simp only [List.append_assoc] at h1 ⊢
          exact h1
      clear hO2 hR2 hO
      go_wp2_with fail
      go_roundw
      case rel => exact ⟨k + 1, v2, by go_num, rfl, by omega, HK2, HR2⟩
      case measure => simp [intOf]; omega
    · obtain rfl : n = k := by omega
      obtain ⟨rk, hrk, -, hO⟩ := HK.out
      rw [List.take_of_length_le (by rw [HN.out]; exact Nat.le_refl _), HE.out] at hrk
      obtain rfl := Option.some.inj hrk
      have CC := Lib.hid (closeDoc_any wr base v bs r p4 hO h4.out (by have := HM.out; omega))
      rw [← HM.out] at CC
      clear hO hrk
      go_wp2_with fail
      refine CC.out.mono ?_
      rintro e w2 ⟨v2, rfl, hO2, hR2⟩
      have HO2 := Lib.hid hO2
      have HR2 := Lib.hid (HR.out.trans hR2)
      clear hO2 hR2
      go_wp2_with fail
      go_ret
      exact ⟨v2, rfl, HO2.out, HR2.out⟩
end Go.Proofs.YtdihelpimpkfoaaDoor
end
