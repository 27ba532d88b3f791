/- BsonPut, BsonTab, BsonPutF, BsonPutD, BsonPutL. -/
import Derived.Test.YtemckkindbpepaaDoorCards
import Derived.Test.YtemckkindbpepaaDoorTie
import Derived.Lib.LaidU8T
import Derived.Lib.LaidTab
import Derived.Deep.DeepWitnessRowRef
import Derived.SizedLaws
import Derived.Lay
import Derived.Lib.AppendStr
import Derived.Test.YtemckkindbpepaaDoorShelf
import Derived.Test.YtemckkindbpepaaDoorMg10
import Derived.Test.YtemckkindbpepaaDoorMg19
import Derived.Test.YtemckkindbpepaaDoorMg0
import Derived.Test.YtemckkindbpepaaDoorMg8
import Derived.Test.YtemckkindbpepaaDoorMg4
set_option maxRecDepth 100000
section
namespace Go.Proofs.YtemckkindbpepaaDoor
open Go.RowKit
open Seal
open Bson (Val)
/-- What is put stands behind the row. -/
def PutPost (w : World) (base : Nat) (bs : List Nat) (e : Ending) (w' : World) : Prop := ∃ v', e = .returned v' ∧ Own8 w' base v' bs ∧ PutRel base w w'
set_option maxRecDepth 100000 in
theorem codeOf_any (k : Int) (w : World) (h0 : 1 ≤ k) (h1 : k ≤ 12) : Calls Tryd.prog 67 #[.int .i64 k] w fun e w' => e = .returned (.int .u8 (Bson.code k : Nat)) ∧ w = w' := by
  have hk : k = 1 ∨ k = 2 ∨ k = 3 ∨ k = 4 ∨ k = 5 ∨ k = 6 ∨ k = 7 ∨ k = 8 ∨ k = 9 ∨ k = 10 ∨ k = 11 ∨ k = 12 := by omega
  clear h0 h1
  rcases hk with rfl | rfl | rfl | rfl | rfl | rfl | rfl | rfl | rfl | rfl | rfl | rfl
  all_goals
    go_enter Tryd.func67, Tryd.ntmps67
    go_wp2_with fail
    go_ret
    exact ⟨rfl, rfl⟩
theorem Own8.more {w' : World} {base : Nat} {v' : Value} {bs cs : List Nat} {m : Nat} (ho : w'.ownsRow base 5 1 v' (bs.length + m) (u8s bs ++ u8s cs)) (hm : cs.length = m) (hs : base ≤ w'.heap.size) : Own8 w' base v' (bs ++ cs) := by
  refine ⟨?_, hs⟩
  rw [List.length_append, hm, ← u8s_snoc]
  exact ho
theorem close_list (bs h4 r x4 : List Nat) (C : List Value) (n k : Nat) (hC : C.take (n + 1) = u8s (bs ++ (h4 ++ r)) ++ [.int .u8 0]) (hk : k = bs.length) (h4l : h4.length = 4) (hx : x4.length = 4) (hn : n = bs.length + (4 + r.length)) :
    (C.take k ++ u8s x4 ++ C.drop (k + 4)).take (n + 1) = u8s (bs ++ (x4 ++ (r ++ [0]))) := by
  have e0 : u8s (bs ++ (h4 ++ r)) ++ [.int .u8 0] = u8s bs ++ (u8s h4 ++ u8s (r ++ [0])) := by
    rw [← u8s_snoc, ← u8s_snoc, ← u8s_snoc, List.append_assoc, List.append_assoc]; rfl
  have e1 : C = u8s bs ++ (u8s h4 ++ (u8s (r ++ [0]) ++ C.drop (n + 1))) := by
    conv => lhs; rw [← List.take_append_drop (n + 1) C]
    rw [hC, e0]; simp only [List.append_assoc]
  have hb : (u8s bs).length = k := by rw [hk]; simp [u8s]
  have h4b : (u8s bs ++ u8s h4).length = k + 4 := by rw [List.length_append, hb]; simp [u8s, h4l]
  have e2 : C.take k = u8s bs := by rw [e1]; exact List.take_left' hb
  have e3 : C.drop (k + 4) = u8s (r ++ [0]) ++ C.drop (n + 1) := by
    conv => lhs; rw [e1, ← List.append_assoc]
    exact List.drop_left' h4b
  rw [e2, e3, ← u8s_snoc bs, ← u8s_snoc x4]
  have hl : (u8s bs ++ u8s x4 ++ u8s (r ++ [0])).length = n + 1 := by simp [u8s, hx]; omega
  rw [← List.append_assoc, List.take_left' hl, List.append_assoc]
set_option maxRecDepth 100000 in
set_option maxHeartbeats 1000000 in
theorem closeDoc_any (w : World) (base : Nat) (v : Value) (bs r : List Nat) (h4 : List Nat) (hv : Own8 w base v (bs ++ (h4 ++ r))) (h4l : h4.length = 4) (hl : bs.length + (4 + r.length) ≤ 1000000) :
    Calls Tryd.prog 51 #[v, .int .i64 (bs.length : Int)] w (PutPost w base (bs ++ Bson.wrap r)) := by
  obtain ⟨i0, hi, hz0, hz1, hz2⟩ := info_parts infoU8
  obtain ⟨n, hn⟩ : ∃ n, n = (bs ++ (h4 ++ r)).length := ⟨_, rfl⟩
  have hnl : n = bs.length + (4 + r.length) := by rw [hn]; simp [h4l]
  have hown := hv.own
  have hsz := hv.sz
  obtain ⟨a0, c0, rfl, -, -⟩ := hv.shape
  rw [← hn] at hown ⊢
  obtain ⟨from_, hfr⟩ : ∃ k, k = bs.length := ⟨_, rfl⟩
  have HFR := Lib.hid hfr
  rw [← hfr] at hnl hl ⊢
  have HNL := Lib.hid hnl
  have hn4 : from_ + 4 ≤ n := by omega
  have hnm : n ≤ 1000000 := by omega
  clear hn hfr hv hnl hl
  go_enter Tryd.func51, Tryd.ntmps51
  go_wp2_with (at_builtin; refine wpList_append_own _ rfl _ _ 22 rfl base 5 i0 (.int .u8 0) 1 1 Tryd.underlying22 hi hz0 hz1 hz2 rfl (by decide) _ n _ rfl (hown.alloc _) ⟨w.heap.size, 0, none⟩ 1 1 [.int .u8 0] rfl rfl ?c1 ?c2 ?c4 ?c5 ?c6 ?_)
  case c1 => exact oneNew8 _ _
  case c2 => intro u hu; simp at hu; subst hu; rfl
  case c4 => unfold maxLen; omega
  case c5 => omega
  case c6 => simp; omega
  intro v1 w1 hown1 hgrow1 _
  have hB1 : PutRel base w w1 := (PutRel.new ((Below.refl _ w).alloc (Nat.le_refl _) _) hsz).trans (PutRel.own (hown.alloc _) (by simp; omega) hgrow1)
  have hs1 : base ≤ w1.heap.size := Nat.le_trans hsz hB1.below.size
  obtain ⟨hlen1, h1⟩ := hown1
  rcases h1 with ⟨_, h1⟩ | ⟨g, cap, cur, rfl, hbg, hg, hnc, hcm, hcs, htk⟩
  · omega
  have hcs' : cur.size = cap := by omega
  have HG := Lib.hid hg
  have HTK : Hid (cur.toList.take (n + 1) = u8s (bs ++ (h4 ++ r)) ++ [.int .u8 0]) := by
    show _ = _
    rw [← htk, Nat.mul_one]
  have HB1 := Lib.hid hB1
  have hcap : cap ≤ 9223372036854775807 := by unfold maxLen at hcm; omega
  have CP := Lib.hid (putNumber_room w1 g from_ cap cur ((n : Int) + 1 - (from_ : Int)) 4 HG.out (by omega) hcs' (by decide) hcm)
  have hfc : ¬ cap = 0 := by omega
  clear hg htk hlen1 hgrow1 hown hB1 hcs
  go_wp2_with fail
  refine CP.out.mono ?_
  rintro e w2 ⟨⟨v9, rfl⟩, hg2, hgr2⟩
  have HG2 := Lib.hid hg2
  have HR2 := Lib.hid hgr2
  clear hg2 hgr2
  go_wp2_with fail
  go_ret
  have hx : (n : Int) + 1 - (from_ : Int) = (r.length : Int) + 5 := by have := HNL.out; omega
  have hwl : (bs ++ Bson.wrap r).length = n + 1 := by
    have := HNL.out
    have := HFR.out
    simp [Bson.wrap, Bson.leI_length]; omega
  have HL := Lib.hid (close_list bs h4 r (Bson.leI ((r.length : Int) + 5) 4) cur.toList n from_ HTK.out HFR.out h4l (Bson.leI_length _ _) (by rw [← HFR.out]; exact HNL.out))
  have hnew : (cur.toList.take from_ ++ u8s (Bson.putB ((n : Int) + 1 - (from_ : Int)) 4) ++ cur.toList.drop (from_ + 4)).length = cap := by
    simp [u8s, Bson.putB_length]; omega
  have hO : Own8 w2 base (.slice (some ⟨g, 0, none⟩) (n + 1) cap) (bs ++ Bson.wrap r) := by
    refine ⟨⟨by simp [u8s], .inr ⟨g, cap, _, by rw [hwl], hbg, HG2.out, by rw [hwl]; exact hnc, hcm, by rw [Nat.mul_one]; simpa using hnew, ?_⟩⟩, Nat.le_trans hs1 HR2.out.size⟩
    rw [hwl, Nat.mul_one, Bson.putB_leI, hx]
    exact HL.out
  refine ⟨_, rfl, hO, HB1.out.trans ⟨⟨HR2.out.os, HR2.out.tape, HR2.out.output, HR2.out.size, fun j hj => HR2.out.block j (by omega) (fun e => by have := Option.some.inj e; omega)⟩, fun j cs t fr hn hb => (HR2.out.block j (Array.getElem?_eq_some_iff.1 hb).1 (fun e => ?_)).trans hb⟩⟩
  obtain rfl : g = j := Option.some.inj e.symm
  rw [HG.out] at hb
  injection hb with hb
  injection hb with _ h3 _
  exact hn h3.symm
end Go.Proofs.YtemckkindbpepaaDoor
end
section
namespace Go.Proofs.YtemckkindbpepaaDoor
open Go.ChangeShapes Go.WideShapes Go.ChangeAt Go.RowKit
def laidList5 : List (String × DataW Unit) := [("math/bits.deBruijn32tab", Rows.laid_math_bits_deBruijn32tab), ("math/bits.deBruijn64tab", Rows.laid_math_bits_deBruijn64tab), ("internal/strconv.uint64pow10", Rows.laid_internal_strconv_uint64pow10), ("unicode/utf8.acceptRanges", Rows.laid_unicode_utf8_acceptRanges), ("unicode/utf8.first", Rows.laid_unicode_utf8_first)]
theorem laidList5_eq : laidList5 = [("math/bits.deBruijn32tab", Rows.laid_math_bits_deBruijn32tab), ("math/bits.deBruijn64tab", Rows.laid_math_bits_deBruijn64tab), ("internal/strconv.uint64pow10", Lib.tabData .u64 Lib.pow10Tab), ("unicode/utf8.acceptRanges", Lib.acceptData), ("unicode/utf8.first", Lib.firstData)] := by kernel_rfl
noncomputable def laidWorld5 (os : Os) : World := World.laidAll Tryd.prog os laidList5
theorem laid_met_all5 (os : Os) (args : Array Value) : laidMet Tryd.prog laidList5 ((laidWorld5 os).forCall (fun _ _ => 0) ⟨#[], args, []⟩).memory :=
  laidMet_laidAll args (by kernel_rfl) (by kernel_rfl)
set_option maxRecDepth 100000 in
theorem tabs_of {W : World} (h : laidMetH Tryd.prog laidList5 W) : Tabs W := by
  rw [laidList5_eq] at h
  have U := utf8Tabs_of_readsT (Go.Proofs.U8Types.of196 Tryd.lays196) ⟨by kernel_rfl, by kernel_rfl, by kernel_rfl, by kernel_rfl, by kernel_rfl, by kernel_rfl, by kernel_rfl⟩ (Lib.laidMet.reads h (.tail _ (.tail _ (.tail _ (.tail _ (.head _)))))) (Lib.laidMet.reads h (.tail _ (.tail _ (.tail _ (.head _)))))
  refine ⟨⟨fun c hc => U.1 c hc, fun i hi => ?_, fun i hi => ?_⟩, ?_⟩
  · have h1 := (U.2 i hi).1
    rw [Nat.mul_comm] at h1
    exact h1
  · have h1 := (U.2 i hi).2
    rw [Nat.mul_comm] at h1
    exact h1
  · obtain ⟨g, t, cs, fuel, p, hg, hty, hvar, hd⟩ := Lib.laidMet.reads h (.tail _ (.tail _ (.head _)))
    have hg2 : Tryd.prog.globalNamed "internal/strconv.uint64pow10" = some 3 := by kernel_rfl
    have ht2 : (Tryd.prog.globals[3]?).map (·.type) = some 141 := by kernel_rfl
    obtain rfl := Option.some.inj (hg2.symm.trans hg)
    obtain rfl := Option.some.inj (ht2.symm.trans hty)
    unfold Lib.TabIs
    rw [hvar, ← Lib.cells_of_tab Tryd.underlying141 Tryd.underlying86 (by kernel_rfl) (by kernel_rfl) hd]
end Go.Proofs.YtemckkindbpepaaDoor
end
section
namespace Go.Proofs.YtemckkindbpepaaDoor
open Go.RowKit
open Seal
open Bson (Val)
theorem VIn.based {w w' : World} {Q : Nat → Prop} {h base : Nat} {x : Val} {v : Value} (hv : VIn w Q h x v) (hQ : ∀ g, Q g → g < base) (hb : Below base w w') : VIn w' Q h x v :=
  hv.kept (fun g hg _ => hb.block g (hQ g hg)) (fun _ z => z)
/-- What putValue does, with so many documents left. -/
def PutVal (d : Nat) : Prop := ∀ (Q : Nat → Prop) (h : Nat) (x : Val) (v : Value) (w : World) (base : Nat) (b : Value) (bs xs : List Nat), VIn w Q h x v → (∀ g, Q g → g < base) → Own8 w base b bs → Bson.enc d x = some xs → bs.length + xs.length ≤ 900000 →
  (∀ W, Below base w W → Lib.TabIs Tryd.prog W "internal/strconv.uint64pow10" .u64 Lib.pow10Tab) → Calls Tryd.prog 68 #[b, v] w (PutPost w base (bs ++ xs))
theorem enc_kind : ∀ {d : Nat} {x : Val} {xs : List Nat}, Bson.enc d x = some xs → 1 ≤ x.kind ∧ x.kind ≤ 12 := by
  intro d x xs h
  by_cases h6 : x.kind = 6
  · omega
  by_cases h7 : x.kind = 7
  · omega
  rw [Bson.enc_other d x h6 h7] at h
  unfold Bson.scalar Bson.scalarP at h
  refine Decidable.byContradiction fun hc => ?_
  rw [if_neg (by omega), if_neg (by omega), if_neg (by omega), if_neg (by omega), if_neg (by omega), if_neg (by omega), if_neg (by omega)] at h
  cases h
theorem code_lt (k : Int) : Bson.code k < 256 := by
  unfold Bson.code
  repeat (split; decide)
  decide
set_option maxRecDepth 100000 in
set_option maxHeartbeats 1000000 in
theorem putField_any (d : Nat) (IH : PutVal d) (Q : Nat → Prop) (h : Nat) (x : Val) (v : Value) (nm : ByteArray) (w : World) (base : Nat) (b : Value) (bs xs : List Nat) (hv : VIn w Q h x v) (hQ : ∀ g, Q g → g < base) (hb : Own8 w base b bs) (he : Bson.enc d x = some xs)
    (hl : bs.length + (2 + nm.size + xs.length) ≤ 900000) (hT : ∀ W, Below base w W → Lib.TabIs Tryd.prog W "internal/strconv.uint64pow10" .u64 Lib.pow10Tab) :
    Calls Tryd.prog 50 #[b, .string nm, v] w (PutPost w base (bs ++ (Bson.code x.kind :: (Bson.bytes nm ++ (0 :: xs))))) := by
  obtain ⟨i0, hi, hz0, hz1, hz2⟩ := info_parts infoU8
  obtain ⟨hk0, hk1⟩ := enc_kind he
  cases h with
  | zero => exact hv.elim
  | succ h =>
  obtain ⟨ba, fa, la, bc, fc, lc, rfl, -⟩ := id hv
  have HV := Lib.hid hv
  unfold agg at HV ⊢
  have IH := Lib.hid IH
  have HQ := Lib.hid hQ
  have HE := Lib.hid he
  have HT := Lib.hid hT
  have hown := hb.own
  have hsz := hb.sz
  have hbl := hb.shape
  obtain ⟨a0, c0, rfl, -, -⟩ := hbl
  obtain ⟨n, hn⟩ : ∃ n, n = bs.length := ⟨_, rfl⟩
  have HN := Lib.hid hn
  rw [← hn] at hown hl ⊢
  obtain ⟨kd, hkd⟩ : ∃ k, k = x.kind := ⟨_, rfl⟩
  rw [← hkd] at HV hk0 hk1 ⊢
  have HKD := Lib.hid hkd
  have hc256 := code_lt kd
  obtain ⟨W1, hW1⟩ : ∃ W, W = w.alloc (.cells #[.int .i64 kd, .int .i64 x.n, .string x.s, .slice ba x.b.length bc, .slice fa x.f.length fc, .slice la x.l.length lc] 27) := ⟨_, rfl⟩
  have HBX : Hid (W1.heap[w.heap.size]? = some (.cells #[.int .i64 kd, .int .i64 x.n, .string x.s, .slice ba x.b.length bc, .slice fa x.f.length fc, .slice la x.l.length lc] 27 (0, 0))) := by rw [hW1]; exact heap_alloc_new w _
  have HR1 : Hid (PutRel base w W1) := by rw [hW1]; exact PutRel.new ((Below.refl _ w).alloc (Nat.le_refl _) _) hsz
  have hown1 : W1.ownsRow base 5 1 (.slice a0 n c0) n (u8s bs) := by rw [hW1]; exact hown.alloc _
  have hs1 : base ≤ W1.heap.size := Nat.le_trans hsz HR1.out.below.size
  have CC := fun W => codeOf_any kd W hk0 hk1
  have q0 := cell_of_row _ _ 0 _ _ _ HBX.out
  have HW1 := Lib.hid hW1
  clear hW1 hn hkd hown hb hv hQ he hT
  go_enter Tryd.func50, Tryd.ntmps50
  go_upto_region 1 with fail
  rw [← HW1.out]
  go_wp2_with fail
  refine (CC W1).mono ?_
  rintro e w' ⟨rfl, rfl⟩
  rename_i K1 hK1 K hK
  refine hK _ _ ?_
  go_wp2_with (at_builtin; refine wpList_append_own _ rfl _ _ 22 rfl base 5 i0 (.int .u8 0) 1 1 Tryd.underlying22 hi hz0 hz1 hz2 rfl (by decide) _ n _ rfl (hown1.alloc _) ⟨W1.heap.size, 0, none⟩ 1 1 [.int .u8 (Bson.code kd : Nat)] rfl rfl ?c1 ?c2 ?c4 ?c5 ?c6 ?_)
  case c1 => exact oneNew8 _ _
  case c2 => intro u hu; simp at hu; subst hu; rfl
  case c4 => unfold maxLen; omega
  case c5 => omega
  case c6 => simp; omega
  intro v3 W3 hown3 hg3 _
  have HR3 : Hid (PutRel base W1 W3) := (PutRel.new ((Below.refl _ W1).alloc (Nat.le_refl _) _) hs1).trans (PutRel.own (hown1.alloc _) (by simp; omega) hg3)
  have hs3 : base ≤ W3.heap.size := Nat.le_trans hs1 HR3.out.below.size
  go_wp2_with (at_builtin; refine Lib.wpList_append_own_string _ rfl _ _ 22 9 rfl base 5 i0 Tryd.underlying22 Tryd.underlying9 hi hz0 hz1 hz2 v3 (n + 1) _ rfl hown3 nm rfl ?c4 ?c5 ?c6 ?_)
  case c4 => unfold maxLen; omega
  case c5 => omega
  case c6 => exact hs3
  intro v4 W4 hown4 hg4 _
  have HR4 : Hid (PutRel base W3 W4) := PutRel.own hown3 hs3 hg4
  have hs4 : base ≤ W4.heap.size := Nat.le_trans hs3 HR4.out.below.size
  clear hg3 hg4 hown3 q0
  go_wp2_with (at_builtin; refine wpList_append_own _ rfl _ _ 22 rfl base 5 i0 (.int .u8 0) 1 1 Tryd.underlying22 hi hz0 hz1 hz2 rfl (by decide) _ (n + 1 + nm.size) _ rfl (hown4.alloc _) ⟨W4.heap.size, 0, none⟩ 1 1 [.int .u8 0] rfl rfl ?c1 ?c2 ?c4 ?c5 ?c6 ?_)
  case c1 => exact oneNew8 _ _
  case c2 => intro u hu; simp at hu; subst hu; rfl
  case c4 => unfold maxLen; omega
  case c5 => omega
  case c6 => simp; omega
  intro v5 W5 hown5 hg5 _
  have HR5 : Hid (PutRel base W4 W5) := (PutRel.new ((Below.refl _ W4).alloc (Nat.le_refl _) _) hs4).trans (PutRel.own (hown4.alloc _) (by simp; omega) hg5)
  have hs5 : base ≤ W5.heap.size := Nat.le_trans hs4 HR5.out.below.size
  have HR := Lib.hid (HR1.out.trans (HR3.out.trans (HR4.out.trans HR5.out)))
  have HB5 := Lib.hid ((HR3.out.trans (HR4.out.trans HR5.out)).keep _ _ _ _ (by decide) HBX.out)
  have q0 := cell_of_row _ _ 0 _ _ _ HB5.out
  have q1 := cell_of_row _ _ 1 _ _ _ HB5.out
  have q2 := cell_of_row _ _ 2 _ _ _ HB5.out
  have q3 := cell_of_row _ _ 3 _ _ _ HB5.out
  have q4 := cell_of_row _ _ 4 _ _ _ HB5.out
  have q5 := cell_of_row _ _ 5 _ _ _ HB5.out
  have HO5 : Hid (Own8 W5 base v5 (bs ++ (Bson.code kd :: (Bson.bytes nm ++ [0])))) := by
    refine ⟨?_, hs5⟩
    have e : (bs ++ (Bson.code kd :: (Bson.bytes nm ++ [0]))).length = n + 1 + nm.size + 1 := by simp [Bson.bytes_length]; have := HN.out; omega
    rw [e, ← u8s_snoc]
    rw [strCells_u8s] at hown5
    have e2 : u8s (Bson.code kd :: (Bson.bytes nm ++ [0])) = [.int .u8 (Bson.code kd : Nat)] ++ u8s (Bson.bytes nm) ++ [.int .u8 0] := by simp [u8s, u8]
    rw [e2]
    simpa using hown5
  have CP := Lib.hid (IH.out Q (h + 1) x _ W5 base v5 _ xs (HV.out.based HQ.out HR.out.below) HQ.out HO5.out HE.out (by simp [Bson.bytes_length]; have := HN.out; omega) (fun W hb => HT.out W (HR.out.below.trans hb)))
  clear hown4 hown5 hg5 hc256
  go_wp2_with fail
  refine CP.out.mono ?_
  rintro e W6 ⟨v6, rfl, hO6, hR6⟩
  have HO6 := Lib.hid hO6
  have HR6 := Lib.hid (HR.out.trans hR6)
  clear hO6 hR6
  go_wp2_with fail
  go_ret
  refine ⟨v6, rfl, ?_, HR6.out⟩
  have h1 := HO6.out
  rw [List.append_assoc] at h1
  simpa using h1
end Go.Proofs.YtemckkindbpepaaDoor
end
section
namespace Bson
open Go
theorem row_next (e : Val → Option (List Nat)) : ∀ (l : List (ByteArray × Val)) (k : Nat) (hk : k < l.length) (r x : List Nat), row e (l.take k) = some r → nameMay l[k].1 = true → e l[k].2 = some x →
    row e (l.take (k + 1)) = some (r ++ (code l[k].2.kind :: (bytes l[k].1 ++ (0 :: x))))
  | [], _, hk, _, _, _, _, _ => by simp at hk
  | (s, v) :: l, 0, _, r, x, hr, hn, hx => by
    rw [List.take_zero, row] at hr
    obtain rfl := Option.some.inj hr
    have hn' : nameMay s = true := hn
    have hx' : e v = some x := hx
    show row e ((s, v) :: l.take 0) = _
    rw [List.take_zero, row, hn', hx', row]
    simp
  | (s, v) :: l, k + 1, hk, r, x, hr, hn, hx => by
    have hk' : k < l.length := by simpa using hk
    rw [List.take_succ_cons, row] at hr
    rw [List.take_succ_cons, row]
    cases hm : nameMay s with
    | false => rw [hm] at hr; cases hr
    | true =>
      cases hv : e v with
      | none => rw [hm, hv] at hr; cases hr
      | some xv =>
        cases hr2 : row e (l.take k) with
        | none => rw [hm, hv, hr2] at hr; cases hr
        | some r2 =>
          rw [hm, hv, hr2] at hr
          obtain rfl := Option.some.inj hr
          have := row_next e l k hk' r2 x hr2 (by simpa using hn) (by simpa using hx)
          rw [this]
          simp
end Bson
namespace Go.Proofs.YtemckkindbpepaaDoor
open Go.RowKit
open Seal
open Bson (Val)
theorem cell_based {w w' : World} {base g o : Nat} {v : Value} (h : w.cell? ⟨g, o, none⟩ = some v) (hb : Below base w w') (hg : g < base) : w'.cell? ⟨g, o, none⟩ = some v :=
  (World.cell?_of_block (a := ⟨g, o, none⟩) (hb.block g hg)).trans h
set_option maxRecDepth 100000 in
set_option maxHeartbeats 2000000 in
theorem putDoc_any (d : Nat) (IH : PutVal d) (Q : Nat → Prop) (h : Nat) (a : Option Addr) (n c : Nat) (f : List (ByteArray × Val)) (w : World) (base : Nat) (b : Value) (bs r : List Nat) (hn : f.length = n) (hnm : n ≤ 1172812402961) (hF : FieldsIn w Q (VIn w Q h) a f) (hQ : ∀ g, Q g → g < base) (hb : Own8 w base b bs) (he : Bson.row (Bson.enc d) f = some r)
    (hl : bs.length + (5 + r.length) ≤ 900000) (hT : ∀ W, Below base w W → Lib.TabIs Tryd.prog W "internal/strconv.uint64pow10" .u64 Lib.pow10Tab) :
    Calls Tryd.prog 25 #[b, .slice a n c] w (PutPost w base (bs ++ Bson.wrap r)) := by
  have HN := Lib.hid hn
  have IH := Lib.hid IH
  have HQ := Lib.hid hQ
  have HE := Lib.hid he
  have HT := Lib.hid hT
  have HF := Lib.hid hF
  obtain ⟨a0, c0, rfl, -, -⟩ := hb.shape
  obtain ⟨m, hm⟩ : ∃ m, m = bs.length := ⟨_, rfl⟩
  have HM := Lib.hid hm
  rw [← hm] at hb hl ⊢
  have C1 := Lib.hid (putNumber_own w base _ bs 0 4 hb (by decide) (by rw [← hm]; omega))
  have h4 : Hid ((Bson.putB 0 4).length = 4) := Bson.putB_length _ _
  obtain ⟨p4, hp4⟩ : ∃ p, p = Bson.putB 0 4 := ⟨_, rfl⟩
  rw [← hp4] at C1 h4
  clear hn hQ he hT hF hm hp4 hb
  go_enter Tryd.func25, Tryd.ntmps25
  go_wp2_with fail
  refine C1.out.mono ?_
  rintro e w1 ⟨v1, rfl, hO1, hR1⟩
  have HO1 := Lib.hid hO1
  have HR1 := Lib.hid hR1
  clear hO1 hR1
  go_wp2_with fail
  go_loopw [0, 14] (fun u i wr => ∃ (k : Nat) (v : Value), i = .int .i64 k ∧ v = u ∧ k ≤ n ∧ Hid (∃ rk, Bson.row (Bson.enc d) (f.take k) = some rk ∧ rk.length ≤ r.length ∧ Own8 wr base v (bs ++ (p4 ++ rk))) ∧ Hid (PutRel base w wr)) (fun _ i _ => n - (intOf i).toNat)
  case atStart => exact ⟨0, v1, rfl, rfl, Nat.zero_le _, ⟨[], by rw [List.take_zero, Bson.row], Nat.zero_le _, by rw [List.append_nil]; exact HO1.out⟩, HR1⟩
  case round =>
    obtain ⟨k, v, rfl, rfl, hk, HK, HR⟩ := hrel
    by_cases hlt : k < n
    · have hkf : k < f.length := by rw [HN.out]; exact hlt
      obtain ⟨rk, hrk, hrl, hO⟩ := HK.out
      obtain ⟨g, o, rfl, hqg, hall⟩ := HF.out.resolve_left (fun e => by rw [e] at hkf; simp at hkf)
      obtain ⟨hnm, hnl, v', hsix, hV⟩ := hall k hkf
      obtain ⟨hmay, xs, hxs, hxl⟩ := row_part (Bson.enc d) f k hkf r rk HE.out hrk
      have HNX := Lib.hid (Bson.row_next (Bson.enc d) f k hkf rk xs hrk hmay hxs)
      obtain ⟨q1, q2, q3, a1, n1, c1, a2, n2, c2, a3, n3, c3, rfl⟩ := VIn.form hV
      obtain ⟨d0, d1, d2, d3, d4, d5, he6, s0, s1, s2, s3, s4, s5⟩ := hsix
      obtain ⟨rfl, rfl, rfl, rfl, rfl, rfl⟩ : d0 = .int .i64 q1 ∧ d1 = .int .i64 q2 ∧ d2 = .string q3 ∧ d3 = .slice a1 n1 c1 ∧ d4 = .slice a2 n2 c2 ∧ d5 = .slice a3 n3 c3 := by
        simp only [Value.agg.injEq, Array.mk.injEq, List.cons.injEq, and_true] at he6
        obtain ⟨e0, e1, e2, e3, e4, e5⟩ := he6
        exact ⟨e0.symm, e1.symm, e2.symm, e3.symm, e4.symm, e5.symm⟩
      have hgb := HQ.out g hqg
      have z0 := cell_based hnm HR.out.below hgb
      have z1 := cell_based s0 HR.out.below hgb
      have z2 := cell_based s1 HR.out.below hgb
      have z3 := cell_based s2 HR.out.below hgb
      have z4 := cell_based s3 HR.out.below hgb
      have z5 := cell_based s4 HR.out.below hgb
      have z6 := cell_based s5 HR.out.below hgb
      have hsb := hO.sz
      have HV := Lib.hid hV
      have HXS := Lib.hid hxs
      have HBX : Hid (PutRel base wr (wr.alloc (.cells #[.string f[k].1, .int .i64 q1, .int .i64 q2, .string q3, .slice a1 n1 c1, .slice a2 n2 c2, .slice a3 n3 c3] 43))) := PutRel.new ((Below.refl _ wr).alloc (Nat.le_refl _) _) hsb
      have CF := Lib.hid (putField_any d IH.out Q h f[k].2 _ f[k].1 _ base v (bs ++ (p4 ++ rk)) xs (hV.based HQ.out (HR.out.trans HBX.out).below) HQ.out (hO.below ((Below.refl _ wr).alloc (Nat.le_refl _) (.cells #[.string f[k].1, .int .i64 q1, .int .i64 q2, .string q3, .slice a1 n1 c1, .slice a2 n2 c2, .slice a3 n3 c3] 43))) hxs
        (by simp only [List.length_append]; have := h4.out; have := HM.out; omega) (fun W hb => HT.out W ((HR.out.trans HBX.out).below.trans hb)))
      generalize f[k].1 = nm at *
      clear s0 s1 s2 s3 s4 s5 hnm he6 hall hsb hV hxs
      go_wp2_with fail
      refine CF.out.mono ?_
      rintro e w2 ⟨v2, rfl, hO2, hR2⟩
      have HR2 := Lib.hid (HR.out.trans (HBX.out.trans hR2))
      have HK2 : Hid (∃ rk, Bson.row (Bson.enc d) (f.take (k + 1)) = some rk ∧ rk.length ≤ r.length ∧ Own8 w2 base v2 (bs ++ (p4 ++ rk))) := by
        refine ⟨_, HNX.out, ?_, ?_⟩
        · simp [Bson.bytes_length]; omega
        · have h1 := hO2
          simp only [List.append_assoc] at h1 ⊢
          exact h1
      clear hO2 hR2 hO
      go_wp2_with fail
      go_roundw
      case rel => exact ⟨k + 1, v2, by go_num, rfl, by omega, HK2, HR2⟩
      case measure => simp [intOf]; omega
    · obtain rfl : n = k := by omega
      obtain ⟨rk, hrk, -, hO⟩ := HK.out
      rw [List.take_of_length_le (by rw [HN.out]; exact Nat.le_refl _), HE.out] at hrk
      obtain rfl := Option.some.inj hrk
      have CC := Lib.hid (closeDoc_any wr base v bs r p4 hO h4.out (by have := HM.out; omega))
      rw [← HM.out] at CC
      clear hO hrk
      go_wp2_with fail
      refine CC.out.mono ?_
      rintro e w2 ⟨v2, rfl, hO2, hR2⟩
      have HO2 := Lib.hid hO2
      have HR2 := Lib.hid (HR.out.trans hR2)
      clear hO2 hR2
      go_wp2_with fail
      go_ret
      exact ⟨v2, rfl, HO2.out, HR2.out⟩
end Go.Proofs.YtemckkindbpepaaDoor
end
section
namespace Go.Proofs.YtemckkindbpepaaDoor
open Go.RowKit
open Seal
open Bson (Val)
def PLInv (base : Nat) (W : World) (v : Value) (bs1 bs2 : List Nat) (k : Nat) (dg : ByteArray) (ag : Value) (B : Nat) (cs : Array Value) (D : Nat → Bool) (V : Nat → Value) (w : World) : Prop :=
  PutRel base W w ∧ w.heap[B]? = some (.cells cs 27 (0, 0)) ∧ (D 0 = true → V 0 = v) ∧ (D 1 = true → V 1 = .int .i64 k) ∧ (D 2 = true → V 2 = .string dg) ∧ (D 3 = true → V 3 = ag) ∧ (D 4 = false → Own8 w base v bs1) ∧ (D 4 = true → Own8 w base (V 4) bs2) ∧
    (D 5 = false → V 5 = v) ∧ (D 5 = true → V 5 = V 4) ∧ (D 4 = true → D 0 = true) ∧ (D 5 = true → D 4 = true)
set_option maxRecDepth 100000 in
set_option maxHeartbeats 2000000 in
theorem putList_any (d : Nat) (IH : PutVal d) (Q : Nat → Prop) (h : Nat) (a : Option Addr) (n c : Nat) (l : List Val) (w : World) (base : Nat) (b : Value) (bs r : List Nat) (hn : l.length = n) (hnm : n ≤ 1353245080339) (hF : ItemsIn w Q (VIn w Q h) a l) (hQ : ∀ g, Q g → g < base) (hb : Own8 w base b bs) (he : Bson.row (Bson.enc d) (Bson.named l) = some r)
    (hl : bs.length + (5 + r.length) ≤ 900000) (hT : ∀ W, Below base w W → Lib.TabIs Tryd.prog W "internal/strconv.uint64pow10" .u64 Lib.pow10Tab) :
    Calls Tryd.prog 79 #[b, .slice a n c] w (PutPost w base (bs ++ Bson.wrap r)) := by
  have HN := Lib.hid hn
  have IH := Lib.hid IH
  have HQ := Lib.hid hQ
  have HE := Lib.hid he
  have HT := Lib.hid hT
  have HF := Lib.hid hF
  obtain ⟨a0, c0, rfl, -, -⟩ := hb.shape
  obtain ⟨m, hm⟩ : ∃ m, m = bs.length := ⟨_, rfl⟩
  have HM := Lib.hid hm
  rw [← hm] at hb hl ⊢
  have C1 := Lib.hid (putNumber_own w base _ bs 0 4 hb (by decide) (by rw [← hm]; omega))
  have h4 : Hid ((Bson.putB 0 4).length = 4) := Bson.putB_length _ _
  obtain ⟨p4, hp4⟩ : ∃ p, p = Bson.putB 0 4 := ⟨_, rfl⟩
  rw [← hp4] at C1 h4
  clear hn hQ he hT hF hm hp4 hb
  go_enter Tryd.func79, Tryd.ntmps79
  go_wp2_with fail
  refine C1.out.mono ?_
  rintro e w1 ⟨v1, rfl, hO1, hR1⟩
  have HO1 := Lib.hid hO1
  have HR1 := Lib.hid hR1
  clear hO1 hR1
  go_wp2_with fail
  go_loopw [0, 14] (fun u i wr => ∃ (k : Nat) (v : Value), i = .int .i64 k ∧ v = u ∧ k ≤ n ∧ Hid (∃ rk, Bson.row (Bson.enc d) ((Bson.named l).take k) = some rk ∧ rk.length ≤ r.length ∧ Own8 wr base v (bs ++ (p4 ++ rk))) ∧ Hid (PutRel base w wr)) (fun _ i _ => n - (intOf i).toNat)
  case atStart => exact ⟨0, v1, rfl, rfl, Nat.zero_le _, ⟨[], by rw [List.take_zero, Bson.row], Nat.zero_le _, by rw [List.append_nil]; exact HO1.out⟩, HR1⟩
  case round =>
    obtain ⟨k, v, rfl, rfl, hk, HK, HR⟩ := hrel
    by_cases hlt : k < n
    · have hkf : k < l.length := by rw [HN.out]; exact hlt
      have hkn : k < (Bson.named l).length := by rw [Bson.named_length]; exact hkf
      obtain ⟨rk, hrk, hrl, hO⟩ := HK.out
      obtain ⟨g, o, rfl, hqg, hall⟩ := HF.out.resolve_left (fun e => by rw [e] at hkf; simp at hkf)
      obtain ⟨v', hsix, hV⟩ := hall k hkf
      obtain ⟨hmay, xs, hxs, hxl⟩ := row_part (Bson.enc d) (Bson.named l) k hkn r rk HE.out hrk
      have hnx := Bson.row_next (Bson.enc d) (Bson.named l) k hkn rk xs hrk hmay hxs
      have hat := named_at l k hkf
      rw [hat] at hxs hnx hxl
      have HNX := Lib.hid hnx
      have HXL : Hid (rk.length + ((Bson.digits k).size + 2) + xs.length ≤ r.length) := hxl
      obtain ⟨q1, q2, q3, a1, n1, c1, a2, n2, c2, a3, n3, c3, rfl⟩ := VIn.form hV
      obtain ⟨d0, d1, d2, d3, d4, d5, he6, s0, s1, s2, s3, s4, s5⟩ := hsix
      obtain ⟨rfl, rfl, rfl, rfl, rfl, rfl⟩ : d0 = .int .i64 q1 ∧ d1 = .int .i64 q2 ∧ d2 = .string q3 ∧ d3 = .slice a1 n1 c1 ∧ d4 = .slice a2 n2 c2 ∧ d5 = .slice a3 n3 c3 := by
        simp only [Value.agg.injEq, Array.mk.injEq, List.cons.injEq, and_true] at he6
        obtain ⟨e0, e1, e2, e3, e4, e5⟩ := he6
        exact ⟨e0.symm, e1.symm, e2.symm, e3.symm, e4.symm, e5.symm⟩
      have hgb := HQ.out g hqg
      have z1 := cell_based s0 HR.out.below hgb
      have z2 := cell_based s1 HR.out.below hgb
      have z3 := cell_based s2 HR.out.below hgb
      have z4 := cell_based s3 HR.out.below hgb
      have z5 := cell_based s4 HR.out.below hgb
      have z6 := cell_based s5 HR.out.below hgb
      have hsb := hO.sz
      have HXS : Hid (Bson.enc d l[k] = some xs) := hxs
      have HV := Lib.hid hV
      have CI := Lib.hid (fun w ht => Tryd.strconv_Itoa (k : Int) (by omega) (by omega) w ht)
      rw [itoa_digits] at CI
      obtain ⟨dg, hdg⟩ : ∃ s, s = Bson.digits k := ⟨_, rfl⟩
      rw [← hdg] at CI
      have HDG := Lib.hid hdg
      obtain ⟨bs2, hbs2⟩ : ∃ l2, l2 = (bs ++ (p4 ++ rk)) ++ (Bson.code l[k].kind :: (Bson.bytes dg ++ (0 :: xs))) := ⟨_, rfl⟩
      have HBS := Lib.hid hbs2
      have HRB : Hid (PutRel base w (wr.alloc (.cells #[.int .i64 q1, .int .i64 q2, .string q3, .slice a1 n1 c1, .slice a2 n2 c2, .slice a3 n3 c3] 27))) := HR.out.trans (PutRel.new ((Below.refl _ wr).alloc (Nat.le_refl _) _) hsb)
      have HSB : Hid (base ≤ (wr.alloc (.cells #[.int .i64 q1, .int .i64 q2, .string q3, .slice a1 n1 c1, .slice a2 n2 c2, .slice a3 n3 c3] 27)).heap.size) := (Nat.le_trans hsb (by simp) : base ≤ (wr.alloc (.cells #[.int .i64 q1, .int .i64 q2, .string q3, .slice a1 n1 c1, .slice a2 n2 c2, .slice a3 n3 c3] 27)).heap.size)
      have HBX : Hid ((wr.alloc (.cells #[.int .i64 q1, .int .i64 q2, .string q3, .slice a1 n1 c1, .slice a2 n2 c2, .slice a3 n3 c3] 27)).heap[wr.heap.size]? = some (.cells #[.int .i64 q1, .int .i64 q2, .string q3, .slice a1 n1 c1, .slice a2 n2 c2, .slice a3 n3 c3] 27 (0, 0))) := heap_alloc_new wr _
      have HOB := Lib.hid (hO.below ((Below.refl _ wr).alloc (Nat.le_refl _) (.cells #[.int .i64 q1, .int .i64 q2, .string q3, .slice a1 n1 c1, .slice a2 n2 c2, .slice a3 n3 c3] 27)))
      have CF : Hid (∀ W, PutRel base (wr.alloc (.cells #[.int .i64 q1, .int .i64 q2, .string q3, .slice a1 n1 c1, .slice a2 n2 c2, .slice a3 n3 c3] 27)) W → Own8 W base v (bs ++ (p4 ++ rk)) → Calls Tryd.prog 50 #[v, .string dg, .agg #[.int .i64 q1, .int .i64 q2, .string q3, .slice a1 n1 c1, .slice a2 n2 c2, .slice a3 n3 c3]] W (PutPost W base bs2)) := fun W hR hOw => by
        have h1 := putField_any d IH.out Q h l[k] _ dg W base v (bs ++ (p4 ++ rk)) xs (HV.out.based HQ.out (HRB.out.trans hR).below) HQ.out hOw HXS.out (by simp only [List.length_append]; have := h4.out; have := HM.out; rw [HDG.out]; simp only at hxl; omega) (fun W' hb => HT.out W' ((HRB.out.trans hR).below.trans hb))
        rw [← HBS.out] at h1
        exact h1
      clear s0 s1 s2 s3 s4 s5 he6 hall hsb hV hxs hnx hat hdg hbs2 hxl hmay
      go_upto_region 6 with fail
      generalize hWX : (wr.alloc (.cells #[.int .i64 q1, .int .i64 q2, .string q3, .slice a1 n1 c1, .slice a2 n2 c2, .slice a3 n3 c3] 27)) = WX at *
      have HI0 : Hid (PLInv base WX v (bs ++ (p4 ++ rk)) bs2 k dg (.agg #[.int .i64 q1, .int .i64 q2, .string q3, .slice a1 n1 c1, .slice a2 n2 c2, .slice a3 n3 c3]) wr.heap.size #[.int .i64 q1, .int .i64 q2, .string q3, .slice a1 n1 c1, .slice a2 n2 c2, .slice a3 n3 c3] (fun _ => false) (fun i => if i = 5 then v else undef) WX) := ⟨PutRel.refl _ _, HBX.out, nofun, nofun, nofun, nofun, fun _ => HOB.out, nofun, fun _ => rfl, nofun, nofun, nofun⟩
      clear hWX hO
      refine wp_region_inv0 (fun V => { tmps := #[V 5, .slice (some ⟨g, o, none⟩) n c, undef, undef, .slice none 0 0, .int .i64 m, .int .i64 k, .pointer (some ⟨wr.heap.size, 0, none⟩), .slice a0 m c0, .int .i64 m, .slice a0 m c0, v1, .slice (some ⟨g, o, none⟩) n c, .int .i64 n, .int .i64 k, .bool true, .int .i64 k, .pointer (some ⟨g, o + k * 6, none⟩), .agg #[.int .i64 q1, .int .i64 q2, .string q3, .slice a1 n1 c1, .slice a2 n2 c2, .slice a3 n3 c3], V 0, V 1, V 2, V 3, V 4, u24, undef, undef, undef], defers := [] }) (PLInv base WX v (bs ++ (p4 ++ rk)) bs2 k dg (.agg #[.int .i64 q1, .int .i64 q2, .string q3, .slice a1 n1 c1, .slice a2 n2 c2, .slice a3 n3 c3]) wr.heap.size #[.int .i64 q1, .int .i64 q2, .string q3, .slice a1 n1 c1, .slice a2 n2 c2, .slice a3 n3 c3]) (by kernel_rfl) (by kernel_rfl) (by kernel_rfl) (fun V => by kernel_rfl) ?_ ⟨⟨⟨rfl, rfl, rfl, Nat.le_refl _, fun _ _ => rfl⟩, fun _ _ _ _ _ hh => hh⟩, HBX.out, nofun, nofun, nofun, nofun, fun _ => ⟨HOB.out.own, HOB.out.sz⟩, nofun, fun _ => by kernel_rfl, nofun, nofun, nofun⟩ ?_
      · refine ⟨?_, ?_⟩
        · refine inv_free rfl (fun D V w5 hDi hpre hI K hK => ?_)
          have hpre := hpre.out
          obtain ⟨p, bx, h0, h1, h2, h3, h4f, h4t, h5f, h5t, h40, h54⟩ := hI
          have d4 : D 4 = false := by cases e : D 4 with | false => rfl | true => rw [h40 e] at hDi; cases hDi
          have d5 : D 5 = false := by cases e : D 5 with | false => rfl | true => rw [h54 e] at d4; cases d4
          have e5 := h5f d5
          go_simp
          exact put_is (by rw [e5]; kernel_rfl) (hK.out v w5 ⟨p, bx, fun _ => rfl, h1, h2, h3, h4f, h4t, h5f, h5t, fun _ => rfl, h54⟩)
        refine ⟨?_, ?_⟩
        · refine inv_free rfl (fun D V w5 hDi hpre hI K hK => ?_)
          have hpre := hpre.out
          obtain ⟨p, bx, h0, h1, h2, h3, h4f, h4t, h5f, h5t, h40, h54⟩ := hI
          go_simp
          exact put_is (by kernel_rfl) (hK.out (.int .i64 k) w5 ⟨p, bx, h0, fun _ => rfl, h2, h3, h4f, h4t, h5f, h5t, h40, h54⟩)
        refine ⟨?_, ?_⟩
        · refine inv_free rfl (fun D V w5 hDi hpre hI K hK => ?_)
          have hpre := hpre.out
          obtain ⟨p, bx, h0, h1, h2, h3, h4f, h4t, h5f, h5t, h40, h54⟩ := hI
          have e1 := h1 (hpre 1 (by kernel_rfl))
          go_simp
          go_at_call 72
          refine (CI.out w5 (HT.out w5 (HRB.out.trans p).below)).mono ?_
          rintro e w6 ⟨rfl, kk, os, hw6⟩
          have hb6 : Below w5.heap.size w5 w6 := hw6 ▸ below_grow (Go.below_drewN (Below.refl _ _) kk) os (Nat.le_refl _)
          exact put_is (by rw [e1]; kernel_rfl) (hK.out (.string dg) w6 ⟨p.trans (PutRel.new hb6 (Nat.le_trans HSB.out p.below.size)), (hb6.block _ (Array.getElem?_eq_some_iff.1 bx).1).trans bx, h0, h1, fun _ => rfl, h3, fun e => (h4f e).below hb6, fun e => (h4t e).below hb6, h5f, h5t, h40, h54⟩)
        refine ⟨?_, ?_⟩
        · refine inv_free rfl (fun D V w5 hDi hpre hI K hK => ?_)
          have hpre := hpre.out
          obtain ⟨p, bx, h0, h1, h2, h3, h4f, h4t, h5f, h5t, h40, h54⟩ := hI
          have c0x := cell_of_row _ _ 0 _ _ _ bx
          have c1x := cell_of_row _ _ 1 _ _ _ bx
          have c2x := cell_of_row _ _ 2 _ _ _ bx
          have c3x := cell_of_row _ _ 3 _ _ _ bx
          have c4x := cell_of_row _ _ 4 _ _ _ bx
          have c5x := cell_of_row _ _ 5 _ _ _ bx
          go_simp
          exact put_is (by kernel_rfl) (hK.out (.agg #[.int .i64 q1, .int .i64 q2, .string q3, .slice a1 n1 c1, .slice a2 n2 c2, .slice a3 n3 c3]) w5 ⟨p, bx, h0, h1, h2, fun _ => rfl, h4f, h4t, h5f, h5t, h40, h54⟩)
        refine ⟨?_, ?_⟩
        · refine inv_free rfl (fun D V w5 hDi hpre hI K hK => ?_)
          have hpre := hpre.out
          obtain ⟨p, bx, h0, h1, h2, h3, h4f, h4t, h5f, h5t, h40, h54⟩ := hI
          have e0 := h0 (hpre 0 (by kernel_rfl))
          have e2 := h2 (hpre 2 (by kernel_rfl))
          have e3 := h3 (hpre 3 (by kernel_rfl))
          go_simp
          go_at_call 50
          refine (CF.out w5 p (h4f hDi)).mono ?_
          rintro e w6 ⟨v6, rfl, hO6, hR6⟩
          exact put_is (by rw [e0, e2, e3]; kernel_rfl) (hK.out v6 w6 ⟨p.trans hR6, hR6.keep _ _ _ _ (by decide) bx, h0, h1, h2, h3, fun e => absurd (show true = false from e) (by decide), fun _ => hO6, h5f, fun e => absurd (h54 e) (by rw [hDi]; decide), fun _ => hpre 0 (by kernel_rfl), fun _ => rfl⟩)
        refine ⟨?_, ?_⟩
        · refine inv_free rfl (fun D V w5 hDi hpre hI K hK => ?_)
          have hpre := hpre.out
          obtain ⟨p, bx, h0, h1, h2, h3, h4f, h4t, h5f, h5t, h40, h54⟩ := hI
          go_simp
          exact put_is (by kernel_rfl) (hK.out (V 4) w5 ⟨p, bx, h0, h1, h2, h3, h4f, h4t, fun e => absurd (show true = false from e) (by decide), fun _ => rfl, h40, fun _ => hpre 4 (by kernel_rfl)⟩)
        trivial
      intro D V w4 hD hI
      obtain ⟨p, -, -, -, -, -, -, h4t, -, h5t, -, -⟩ := hI
      have e5 := h5t (hD 5 (by decide))
      have hO4 := h4t (hD 4 (by decide))
      rw [e5]
      generalize V 4 = v2 at *
      have HR2 := Lib.hid (HRB.out.trans p)
      have HK2 : Hid (∃ rk, Bson.row (Bson.enc d) ((Bson.named l).take (k + 1)) = some rk ∧ rk.length ≤ r.length ∧ Own8 w4 base v2 (bs ++ (p4 ++ rk))) := by
        refine ⟨_, HNX.out, ?_, ?_⟩
        · have := HXL.out
          simp [Bson.bytes_length]; omega
        · have h1 := hO4
          rw [HBS.out, HDG.out] at h1
          simp only [List.append_assoc] at h1 ⊢
          exact h1
      clear hO4 p e5 h4t h5t hD HI0
      go_wp2_with fail
      go_roundw
      case rel => exact ⟨k + 1, v2, by go_num, rfl, by omega, HK2, HR2⟩
      case measure => simp [intOf]; omega
    · obtain rfl : n = k := by omega
      obtain ⟨rk, hrk, -, hO⟩ := HK.out
      rw [List.take_of_length_le (by rw [Bson.named_length, HN.out]; exact Nat.le_refl _), HE.out] at hrk
      obtain rfl := Option.some.inj hrk
      have CC := Lib.hid (closeDoc_any wr base v bs r p4 hO h4.out (by have := HM.out; omega))
      rw [← HM.out] at CC
      clear hO hrk
      go_wp2_with fail
      refine CC.out.mono ?_
      rintro e w2 ⟨v2, rfl, hO2, hR2⟩
      have HO2 := Lib.hid hO2
      have HR2 := Lib.hid (HR.out.trans hR2)
      clear hO2 hR2
      go_wp2_with fail
      go_ret
      exact ⟨v2, rfl, HO2.out, HR2.out⟩
end Go.Proofs.YtemckkindbpepaaDoor
end
