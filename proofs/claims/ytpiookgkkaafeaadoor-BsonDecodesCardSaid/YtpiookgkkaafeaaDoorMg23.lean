/- BsonCutsMath, BsonPut, BsonTab, BsonPutF. -/
import Derived.Test.YtpiookgkkaafeaaDoorCards
import Derived.Test.YtpiookgkkaafeaaDoorTie
import Derived.Lib.LaidU8T
import Derived.Lib.LaidTab
import Derived.Deep.DeepWitnessRowRef
import Derived.SizedLaws
import Derived.Lay
import Derived.Lib.AppendStr
import Derived.Test.YtpiookgkkaafeaaDoorMg4
import Derived.Test.YtpiookgkkaafeaaDoorMg22
import Derived.Test.YtpiookgkkaafeaaDoorMg13
import Derived.Test.YtpiookgkkaafeaaDoorMg2
import Derived.Test.YtpiookgkkaafeaaDoorMg10
import Derived.Test.YtpiookgkkaafeaaDoorMg0
import Derived.Test.YtpiookgkkaafeaaDoorMg8
set_option maxRecDepth 100000
section
namespace Go.Proofs.YtpiookgkkaafeaaDoor
open Bson (Val enc row scalar scalarP digits named wrap decode)
theorem dec_len : ∀ (k n : Nat), n < 10 ^ (k + 1) → (Lib.decDigits n).length ≤ k + 1
  | 0, n, h => by
    rw [Lib.decDigits, dif_pos (by omega)]; simp
  | k + 1, n, h => by
    rw [Lib.decDigits]
    split
    · simp
    · have := dec_len k (n / 10) (by rw [Nat.pow_succ] at h; omega)
      rw [List.length_append, List.length_singleton]; omega
theorem digits_len (n : Nat) (h : n < 10000) : (digits n).size ≤ 4 := by
  have := dec_len 3 n (by omega)
  show (Lib.decDigits n).toArray.size ≤ 4
  rw [List.size_toArray]; exact this
theorem scalar_le {v : Val} {l : List Nat} (h : scalar v = some l) : l.length + 8 ≤ 20 * (1 + v.s.size + v.b.length) := by
  unfold scalar scalarP at h
  repeat' split at h
  all_goals try (cases h; done)
  all_goals simp only [Option.some.injEq] at h
  all_goals subst h
  all_goals try simp [Bson.leI_length, Bson.bytes_length]
  all_goals omega
theorem row_le {e : Val → Option (List Nat)} (c : ByteArray × Val → Nat) : ∀ (f : List (ByteArray × Val)) (bs : List Nat), (∀ p ∈ f, ∀ l, e p.2 = some l → 2 + p.1.size + l.length ≤ 20 * c p) → row e f = some bs → bs.length ≤ 20 * (f.map c).sum
  | [], bs, _, h => by cases h; simp
  | (s, v) :: f, bs, hc, h => by
    obtain ⟨x, y, _, hx, hy, rfl⟩ := Bson.row_cons h
    have h1 := hc (s, v) (List.mem_cons_self ..) x hx
    have h2 := row_le c f y (fun p hp => hc p (List.mem_cons_of_mem _ hp)) hy
    rw [List.map_cons, List.sum_cons]
    simp only [List.length_cons, List.length_append, Bson.bytes_length] at h1 ⊢
    omega
theorem wrap_len (l : List Nat) : (wrap l).length = l.length + 5 := by
  unfold wrap; simp [Bson.leI_length]; omega
theorem enc_le : ∀ (d h : Nat) (x : Val) (l : List Nat), Hgt h x → wt h x ≤ 3000 → enc d x = some l → l.length + 8 ≤ 20 * wt h x
  | _, 0, _, _, hx, _, _ => hx.elim
  | 0, h + 1, x, l, _, _, he => by
    have := scalar_le (v := x) he
    rw [wt]; omega
  | d + 1, h + 1, x, l, hx, hw, he => by
    rw [wt] at hw ⊢
    by_cases h6 : x.kind = 6
    · rw [Bson.enc_doc d x h6] at he
      split at he
      · cases hr : row (enc d) x.f with
        | none => rw [hr] at he; cases he
        | some r =>
          rw [hr] at he; cases he
          have h1 := row_le (e := enc d) (fun p => p.1.size + wt h p.2) x.f r (fun p hp l hl => by
            have h2 := mem_le_sum (fun p : ByteArray × Val => p.1.size + wt h p.2) x.f p hp
            have h3 := enc_le d h p.2 l (hx.1 p hp) (by omega) hl
            show _ ≤ 20 * (p.1.size + wt h p.2); omega) hr
          rw [wrap_len]; omega
      · cases he
    · by_cases h7 : x.kind = 7
      · rw [Bson.enc_list d x h7] at he
        split at he
        · cases hr : row (enc d) (named x.l) with
          | none => rw [hr] at he; cases he
          | some r =>
            rw [hr] at he; cases he
            have hlen := length_le_sum (wt h) x.l (fun y hy => wt_pos (hx.2 y hy))
            have h1 := row_le (e := enc d) (fun p => wt h p.2) (named x.l) r (fun p hp l hl => by
              obtain ⟨k, hk, rfl⟩ := List.mem_iff_getElem.1 hp
              have hk2 : k < x.l.length := by rw [Bson.named_length] at hk; exact hk
              rw [named_at x.l k hk2] at hl ⊢
              have hm : x.l[k] ∈ x.l := List.getElem_mem hk2
              have h2 := mem_le_sum (wt h) x.l _ hm
              have h3 := enc_le d h x.l[k] l (hx.2 _ hm) (by omega) hl
              have h4 := digits_len k (by omega)
              show 2 + (digits k).size + l.length ≤ 20 * wt h x.l[k]; omega) hr
            have e2 : (named x.l).map (fun p => wt h p.2) = x.l.map (wt h) := by
              have e3 := congrArg (List.map (wt h)) (Bson.named_vals x.l)
              rw [List.map_map] at e3
              exact e3
            rw [e2] at h1
            rw [wrap_len]; omega
        · cases he
      · rw [Bson.enc_other (d + 1) x h6 h7] at he
        have := scalar_le he; omega
/-- The bytes of a value's blobs are octets. -/
def OctV : Nat → Val → Prop
  | 0, _ => False
  | h + 1, x => (∀ c ∈ x.b, c < 256) ∧ (∀ p ∈ x.f, OctV h p.2) ∧ ∀ y ∈ x.l, OctV h y
theorem VIn.octs {w : World} {Q : Nat → Prop} : ∀ {h : Nat} {x : Val} {v : Value}, VIn w Q h x v → OctV h x
  | 0, _, _, hv => hv.elim
  | h + 1, x, v, ⟨ba, fa, la, bc, fc, lc, e, h1, h2, h3, h4, h5, h6, h7⟩ => by
    refine ⟨h1.o, fun p hp => ?_, fun y hy => ?_⟩
    · rcases h6 with h6 | ⟨g, o, _, _, h6⟩
      · rw [h6] at hp; cases hp
      · obtain ⟨i, hi, rfl⟩ := List.getElem_of_mem hp
        obtain ⟨_, _, u, _, hu⟩ := h6 i hi
        exact VIn.octs hu
    · rcases h7 with h7 | ⟨g, o, _, _, h7⟩
      · rw [h7] at hy; cases hy
      · obtain ⟨i, hi, rfl⟩ := List.getElem_of_mem hy
        obtain ⟨u, _, hu⟩ := h7 i hi
        exact VIn.octs hu
theorem scalar_oct {v : Val} {l : List Nat} (hb : ∀ c ∈ v.b, c < 256) (h : scalar v = some l) : ∀ c ∈ l, c < 256 := by
  unfold scalar scalarP at h
  repeat' split at h
  all_goals try (cases h; done)
  all_goals simp only [Option.some.injEq] at h
  all_goals subst h
  all_goals intro c hc
  all_goals try (exact Bson.leI_lt _ _ c hc)
  all_goals try (exact hb c hc)
  all_goals try (cases hc; done)
  · rcases List.mem_append.1 hc with hc | hc
    · exact Bson.leI_lt _ _ c hc
    · rcases List.mem_append.1 hc with hc | hc
      · exact Bson.bytes_lt _ c hc
      · rw [List.mem_singleton.1 hc]; decide
  · rcases List.mem_append.1 hc with hc | hc
    · exact Bson.leI_lt _ _ c hc
    · rcases List.mem_cons.1 hc with hc | hc
      · rw [hc]; decide
      · exact hb c hc
theorem code_oct (k : Int) : Bson.code k < 256 := by
  unfold Bson.code
  repeat' split
  all_goals decide
theorem row_oct {e : Val → Option (List Nat)} : ∀ (f : List (ByteArray × Val)) (bs : List Nat), (∀ p ∈ f, ∀ l, e p.2 = some l → ∀ c ∈ l, c < 256) → row e f = some bs → ∀ c ∈ bs, c < 256
  | [], bs, _, h => by cases h; intro c hc; cases hc
  | (s, v) :: f, bs, hk, h => by
    obtain ⟨x, y, _, hx, hy, rfl⟩ := Bson.row_cons h
    intro c hc
    rcases List.mem_cons.1 hc with hc | hc
    · rw [hc]; exact code_oct _
    · rcases List.mem_append.1 hc with hc | hc
      · exact Bson.bytes_lt _ c hc
      · rcases List.mem_cons.1 hc with hc | hc
        · rw [hc]; decide
        · rcases List.mem_append.1 hc with hc | hc
          · exact hk (s, v) (List.mem_cons_self ..) x hx c hc
          · exact row_oct f y (fun p hp => hk p (List.mem_cons_of_mem _ hp)) hy c hc
theorem wrap_oct {l : List Nat} (h : ∀ c ∈ l, c < 256) : ∀ c ∈ wrap l, c < 256 := by
  intro c hc
  unfold wrap at hc
  rcases List.mem_append.1 hc with hc | hc
  · exact Bson.leI_lt _ _ c hc
  · rcases List.mem_append.1 hc with hc | hc
    · exact h c hc
    · rw [List.mem_singleton.1 hc]; decide
theorem enc_oct : ∀ (d h : Nat) (x : Val) (l : List Nat), OctV h x → enc d x = some l → ∀ c ∈ l, c < 256
  | _, 0, _, _, hx, _ => hx.elim
  | 0, h + 1, x, l, hx, he => scalar_oct hx.1 (v := x) he
  | d + 1, h + 1, x, l, hx, he => by
    by_cases h6 : x.kind = 6
    · rw [Bson.enc_doc d x h6] at he
      split at he
      · cases hr : row (enc d) x.f with
        | none => rw [hr] at he; cases he
        | some r =>
          rw [hr] at he; cases he
          exact wrap_oct (row_oct x.f r (fun p hp l hl => enc_oct d h p.2 l (hx.2.1 p hp) hl) hr)
      · cases he
    · by_cases h7 : x.kind = 7
      · rw [Bson.enc_list d x h7] at he
        split at he
        · cases hr : row (enc d) (named x.l) with
          | none => rw [hr] at he; cases he
          | some r =>
            rw [hr] at he; cases he
            refine wrap_oct (row_oct (named x.l) r (fun p hp l hl => ?_) hr)
            obtain ⟨k, hk, rfl⟩ := List.mem_iff_getElem.1 hp
            have hk2 : k < x.l.length := by rw [Bson.named_length] at hk; exact hk
            rw [named_at x.l k hk2] at hl
            exact enc_oct d h x.l[k] l (hx.2.2 _ (List.getElem_mem hk2)) hl
        · cases he
      · rw [Bson.enc_other (d + 1) x h6 h7] at he
        exact scalar_oct hx.1 he
end Go.Proofs.YtpiookgkkaafeaaDoor
end
section
namespace Go.Proofs.YtpiookgkkaafeaaDoor
open Go.RowKit
open Seal
open Bson (Val)
/-- What is put stands behind the row. -/
def PutPost (w : World) (base : Nat) (bs : List Nat) (e : Ending) (w' : World) : Prop := ∃ v', e = .returned v' ∧ Own8 w' base v' bs ∧ PutRel base w w'
set_option maxRecDepth 100000 in
theorem codeOf_any (k : Int) (w : World) (h0 : 1 ≤ k) (h1 : k ≤ 12) : Calls Tryd.prog 67 #[.int .i64 k] w fun e w' => e = .returned (.int .u8 (Bson.code k : Nat)) ∧ w = w' := by
  have hk : k = 1 ∨ k = 2 ∨ k = 3 ∨ k = 4 ∨ k = 5 ∨ k = 6 ∨ k = 7 ∨ k = 8 ∨ k = 9 ∨ k = 10 ∨ k = 11 ∨ k = 12 := by omega
  clear h0 h1
  rcases hk with rfl | rfl | rfl | rfl | rfl | rfl | rfl | rfl | rfl | rfl | rfl | rfl
  all_goals
    go_enter Tryd.func67, Tryd.ntmps67
    go_wp2_with fail
    go_ret
    exact ⟨rfl, rfl⟩
theorem Own8.more {w' : World} {base : Nat} {v' : Value} {bs cs : List Nat} {m : Nat} (ho : w'.ownsRow base 5 1 v' (bs.length + m) (u8s bs ++ u8s cs)) (hm : cs.length = m) (hs : base ≤ w'.heap.size) : Own8 w' base v' (bs ++ cs) := by
  refine ⟨?_, hs⟩
  rw [List.length_append, hm, ← u8s_snoc]
  exact ho
theorem close_list (bs h4 r x4 : List Nat) (C : List Value) (n k : Nat) (hC : C.take (n + 1) = u8s (bs ++ (h4 ++ r)) ++ [.int .u8 0]) (hk : k = bs.length) (h4l : h4.length = 4) (hx : x4.length = 4) (hn : n = bs.length + (4 + r.length)) :
    (C.take k ++ u8s x4 ++ C.drop (k + 4)).take (n + 1) = u8s (bs ++ (x4 ++ (r ++ [0]))) := by
  have e0 : u8s (bs ++ (h4 ++ r)) ++ [.int .u8 0] = u8s bs ++ (u8s h4 ++ u8s (r ++ [0])) := by
    rw [← u8s_snoc, ← u8s_snoc, ← u8s_snoc, List.append_assoc, List.append_assoc]; rfl
  have e1 : C = u8s bs ++ (u8s h4 ++ (u8s (r ++ [0]) ++ C.drop (n + 1))) := by
    conv => lhs; rw [← List.take_append_drop (n + 1) C]
    rw [hC, e0]; simp only [List.append_assoc]
  have hb : (u8s bs).length = k := by rw [hk]; simp [u8s]
  have h4b : (u8s bs ++ u8s h4).length = k + 4 := by rw [List.length_append, hb]; simp [u8s, h4l]
  have e2 : C.take k = u8s bs := by rw [e1]; exact List.take_left' hb
  have e3 : C.drop (k + 4) = u8s (r ++ [0]) ++ C.drop (n + 1) := by
    conv => lhs; rw [e1, ← List.append_assoc]
    exact List.drop_left' h4b
  rw [e2, e3, ← u8s_snoc bs, ← u8s_snoc x4]
  have hl : (u8s bs ++ u8s x4 ++ u8s (r ++ [0])).length = n + 1 := by simp [u8s, hx]; omega
  rw [← List.append_assoc, List.take_left' hl, List.append_assoc]
set_option maxRecDepth 100000 in
set_option maxHeartbeats 1000000 in
theorem closeDoc_any (w : World) (base : Nat) (v : Value) (bs r : List Nat) (h4 : List Nat) (hv : Own8 w base v (bs ++ (h4 ++ r))) (h4l : h4.length = 4) (hl : bs.length + (4 + r.length) ≤ 1000000) :
    Calls Tryd.prog 51 #[v, .int .i64 (bs.length : Int)] w (PutPost w base (bs ++ Bson.wrap r)) := by
  obtain ⟨i0, hi, hz0, hz1, hz2⟩ := info_parts infoU8
  obtain ⟨n, hn⟩ : ∃ n, n = (bs ++ (h4 ++ r)).length := ⟨_, rfl⟩
  have hnl : n = bs.length + (4 + r.length) := by rw [hn]; simp [h4l]
  have hown := hv.own
  have hsz := hv.sz
  obtain ⟨a0, c0, rfl, -, -⟩ := hv.shape
  rw [← hn] at hown ⊢
  obtain ⟨from_, hfr⟩ : ∃ k, k = bs.length := ⟨_, rfl⟩
  have HFR := Lib.hid hfr
  rw [← hfr] at hnl hl ⊢
  have HNL := Lib.hid hnl
  have hn4 : from_ + 4 ≤ n := by omega
  have hnm : n ≤ 1000000 := by omega
  clear hn hfr hv hnl hl
  go_enter Tryd.func51, Tryd.ntmps51
  go_wp2_with (at_builtin; refine wpList_append_own _ rfl _ _ 22 rfl base 5 i0 (.int .u8 0) 1 1 Tryd.underlying22 hi hz0 hz1 hz2 rfl (by decide) _ n _ rfl (hown.alloc _) ⟨w.heap.size, 0, none⟩ 1 1 [.int .u8 0] rfl rfl ?c1 ?c2 ?c4 ?c5 ?c6 ?_)
  case c1 => exact oneNew8 _ _
  case c2 => intro u hu; simp at hu; subst hu; rfl
  case c4 => unfold maxLen; omega
  case c5 => omega
  case c6 => simp; omega
  intro v1 w1 hown1 hgrow1 _
  have hB1 : PutRel base w w1 := (PutRel.new ((Below.refl _ w).alloc (Nat.le_refl _) _) hsz).trans (PutRel.own (hown.alloc _) (by simp; omega) hgrow1)
  have hs1 : base ≤ w1.heap.size := Nat.le_trans hsz hB1.below.size
  obtain ⟨hlen1, h1⟩ := hown1
  rcases h1 with ⟨_, h1⟩ | ⟨g, cap, cur, rfl, hbg, hg, hnc, hcm, hcs, htk⟩
  · omega
  have hcs' : cur.size = cap := by omega
  have HG := Lib.hid hg
  have HTK : Hid (cur.toList.take (n + 1) = u8s (bs ++ (h4 ++ r)) ++ [.int .u8 0]) := by
    show _ = _
    rw [← htk, Nat.mul_one]
  have HB1 := Lib.hid hB1
  have hcap : cap ≤ 9223372036854775807 := by unfold maxLen at hcm; omega
  have CP := Lib.hid (putNumber_room w1 g from_ cap cur ((n : Int) + 1 - (from_ : Int)) 4 HG.out (by omega) hcs' (by decide) hcm)
  have hfc : ¬ cap = 0 := by omega
  clear hg htk hlen1 hgrow1 hown hB1 hcs
  go_wp2_with fail
  refine CP.out.mono ?_
  rintro e w2 ⟨⟨v9, rfl⟩, hg2, hgr2⟩
  have HG2 := Lib.hid hg2
  have HR2 := Lib.hid hgr2
  clear hg2 hgr2
  go_wp2_with fail
  go_ret
  have hx : (n : Int) + 1 - (from_ : Int) = (r.length : Int) + 5 := by have := HNL.out; omega
  have hwl : (bs ++ Bson.wrap r).length = n + 1 := by
    have := HNL.out
    have := HFR.out
    simp [Bson.wrap, Bson.leI_length]; omega
  have HL := Lib.hid (close_list bs h4 r (Bson.leI ((r.length : Int) + 5) 4) cur.toList n from_ HTK.out HFR.out h4l (Bson.leI_length _ _) (by rw [← HFR.out]; exact HNL.out))
  have hnew : (cur.toList.take from_ ++ u8s (Bson.putB ((n : Int) + 1 - (from_ : Int)) 4) ++ cur.toList.drop (from_ + 4)).length = cap := by
    simp [u8s, Bson.putB_length]; omega
  have hO : Own8 w2 base (.slice (some ⟨g, 0, none⟩) (n + 1) cap) (bs ++ Bson.wrap r) := by
    refine ⟨⟨by simp [u8s], .inr ⟨g, cap, _, by rw [hwl], hbg, HG2.out, by rw [hwl]; exact hnc, hcm, by rw [Nat.mul_one]; simpa using hnew, ?_⟩⟩, Nat.le_trans hs1 HR2.out.size⟩
    rw [hwl, Nat.mul_one, Bson.putB_leI, hx]
    exact HL.out
  refine ⟨_, rfl, hO, HB1.out.trans ⟨⟨HR2.out.os, HR2.out.tape, HR2.out.output, HR2.out.size, fun j hj => HR2.out.block j (by omega) (fun e => by have := Option.some.inj e; omega)⟩, fun j cs t fr hn hb => (HR2.out.block j (Array.getElem?_eq_some_iff.1 hb).1 (fun e => ?_)).trans hb⟩⟩
  obtain rfl : g = j := Option.some.inj e.symm
  rw [HG.out] at hb
  injection hb with hb
  injection hb with _ h3 _
  exact hn h3.symm
end Go.Proofs.YtpiookgkkaafeaaDoor
end
section
namespace Go.Proofs.YtpiookgkkaafeaaDoor
open Go.ChangeShapes Go.WideShapes Go.ChangeAt Go.RowKit
def laidList5 : List (String × DataW Unit) := [("math/bits.deBruijn32tab", Rows.laid_math_bits_deBruijn32tab), ("math/bits.deBruijn64tab", Rows.laid_math_bits_deBruijn64tab), ("internal/strconv.uint64pow10", Rows.laid_internal_strconv_uint64pow10), ("unicode/utf8.acceptRanges", Rows.laid_unicode_utf8_acceptRanges), ("unicode/utf8.first", Rows.laid_unicode_utf8_first)]
theorem laidList5_eq : laidList5 = [("math/bits.deBruijn32tab", Rows.laid_math_bits_deBruijn32tab), ("math/bits.deBruijn64tab", Rows.laid_math_bits_deBruijn64tab), ("internal/strconv.uint64pow10", Lib.tabData .u64 Lib.pow10Tab), ("unicode/utf8.acceptRanges", Lib.acceptData), ("unicode/utf8.first", Lib.firstData)] := by kernel_rfl
noncomputable def laidWorld5 (os : Os) : World := World.laidAll Tryd.prog os laidList5
theorem laid_met_all5 (os : Os) (args : Array Value) : laidMet Tryd.prog laidList5 ((laidWorld5 os).forCall (fun _ _ => 0) ⟨#[], args, []⟩).memory :=
  laidMet_laidAll args (by kernel_rfl) (by kernel_rfl)
set_option maxRecDepth 100000 in
theorem tabs_of {W : World} (h : laidMetH Tryd.prog laidList5 W) : Tabs W := by
  rw [laidList5_eq] at h
  have U := utf8Tabs_of_readsT (Go.Proofs.U8Types.of196 Tryd.lays196) ⟨by kernel_rfl, by kernel_rfl, by kernel_rfl, by kernel_rfl, by kernel_rfl, by kernel_rfl, by kernel_rfl⟩ (Lib.laidMet.reads h (.tail _ (.tail _ (.tail _ (.tail _ (.head _)))))) (Lib.laidMet.reads h (.tail _ (.tail _ (.tail _ (.head _)))))
  refine ⟨⟨fun c hc => U.1 c hc, fun i hi => ?_, fun i hi => ?_⟩, ?_⟩
  · have h1 := (U.2 i hi).1
    rw [Nat.mul_comm] at h1
    exact h1
  · have h1 := (U.2 i hi).2
    rw [Nat.mul_comm] at h1
    exact h1
  · obtain ⟨g, t, cs, fuel, p, hg, hty, hvar, hd⟩ := Lib.laidMet.reads h (.tail _ (.tail _ (.head _)))
    have hg2 : Tryd.prog.globalNamed "internal/strconv.uint64pow10" = some 3 := by kernel_rfl
    have ht2 : (Tryd.prog.globals[3]?).map (·.type) = some 141 := by kernel_rfl
    obtain rfl := Option.some.inj (hg2.symm.trans hg)
    obtain rfl := Option.some.inj (ht2.symm.trans hty)
    unfold Lib.TabIs
    rw [hvar, ← Lib.cells_of_tab Tryd.underlying141 Tryd.underlying86 (by kernel_rfl) (by kernel_rfl) hd]
end Go.Proofs.YtpiookgkkaafeaaDoor
end
section
namespace Go.Proofs.YtpiookgkkaafeaaDoor
open Go.RowKit
open Seal
open Bson (Val)
theorem VIn.based {w w' : World} {Q : Nat → Prop} {h base : Nat} {x : Val} {v : Value} (hv : VIn w Q h x v) (hQ : ∀ g, Q g → g < base) (hb : Below base w w') : VIn w' Q h x v :=
  hv.kept (fun g hg _ => hb.block g (hQ g hg)) (fun _ z => z)
/-- What putValue does, with so many documents left. -/
def PutVal (d : Nat) : Prop := ∀ (Q : Nat → Prop) (h : Nat) (x : Val) (v : Value) (w : World) (base : Nat) (b : Value) (bs xs : List Nat), VIn w Q h x v → (∀ g, Q g → g < base) → Own8 w base b bs → Bson.enc d x = some xs → bs.length + xs.length ≤ 900000 →
  (∀ W, Below base w W → Lib.TabIs Tryd.prog W "internal/strconv.uint64pow10" .u64 Lib.pow10Tab) → Calls Tryd.prog 68 #[b, v] w (PutPost w base (bs ++ xs))
theorem enc_kind : ∀ {d : Nat} {x : Val} {xs : List Nat}, Bson.enc d x = some xs → 1 ≤ x.kind ∧ x.kind ≤ 12 := by
  intro d x xs h
  by_cases h6 : x.kind = 6
  · omega
  by_cases h7 : x.kind = 7
  · omega
  rw [Bson.enc_other d x h6 h7] at h
  unfold Bson.scalar Bson.scalarP at h
  refine Decidable.byContradiction fun hc => ?_
  rw [if_neg (by omega), if_neg (by omega), if_neg (by omega), if_neg (by omega), if_neg (by omega), if_neg (by omega), if_neg (by omega)] at h
  cases h
theorem code_lt (k : Int) : Bson.code k < 256 := by
  unfold Bson.code
  repeat (split; decide)
  decide
set_option maxRecDepth 100000 in
set_option maxHeartbeats 1000000 in
theorem putField_any (d : Nat) (IH : PutVal d) (Q : Nat → Prop) (h : Nat) (x : Val) (v : Value) (nm : ByteArray) (w : World) (base : Nat) (b : Value) (bs xs : List Nat) (hv : VIn w Q h x v) (hQ : ∀ g, Q g → g < base) (hb : Own8 w base b bs) (he : Bson.enc d x = some xs)
    (hl : bs.length + (2 + nm.size + xs.length) ≤ 900000) (hT : ∀ W, Below base w W → Lib.TabIs Tryd.prog W "internal/strconv.uint64pow10" .u64 Lib.pow10Tab) :
    Calls Tryd.prog 50 #[b, .string nm, v] w (PutPost w base (bs ++ (Bson.code x.kind :: (Bson.bytes nm ++ (0 :: xs))))) := by
  obtain ⟨i0, hi, hz0, hz1, hz2⟩ := info_parts infoU8
  obtain ⟨hk0, hk1⟩ := enc_kind he
  cases h with
  | zero => exact hv.elim
  | succ h =>
  obtain ⟨ba, fa, la, bc, fc, lc, rfl, -⟩ := id hv
  have HV := Lib.hid hv
  unfold agg at HV ⊢
  have IH := Lib.hid IH
  have HQ := Lib.hid hQ
  have HE := Lib.hid he
  have HT := Lib.hid hT
  have hown := hb.own
  have hsz := hb.sz
  have hbl := hb.shape
  obtain ⟨a0, c0, rfl, -, -⟩ := hbl
  obtain ⟨n, hn⟩ : ∃ n, n = bs.length := ⟨_, rfl⟩
  have HN := Lib.hid hn
  rw [← hn] at hown hl ⊢
  obtain ⟨kd, hkd⟩ : ∃ k, k = x.kind := ⟨_, rfl⟩
  rw [← hkd] at HV hk0 hk1 ⊢
  have HKD := Lib.hid hkd
  have hc256 := code_lt kd
  obtain ⟨W1, hW1⟩ : ∃ W, W = w.alloc (.cells #[.int .i64 kd, .int .i64 x.n, .string x.s, .slice ba x.b.length bc, .slice fa x.f.length fc, .slice la x.l.length lc] 27) := ⟨_, rfl⟩
  have HBX : Hid (W1.heap[w.heap.size]? = some (.cells #[.int .i64 kd, .int .i64 x.n, .string x.s, .slice ba x.b.length bc, .slice fa x.f.length fc, .slice la x.l.length lc] 27 (0, 0))) := by rw [hW1]; exact heap_alloc_new w _
  have HR1 : Hid (PutRel base w W1) := by rw [hW1]; exact PutRel.new ((Below.refl _ w).alloc (Nat.le_refl _) _) hsz
  have hown1 : W1.ownsRow base 5 1 (.slice a0 n c0) n (u8s bs) := by rw [hW1]; exact hown.alloc _
  have hs1 : base ≤ W1.heap.size := Nat.le_trans hsz HR1.out.below.size
  have CC := fun W => codeOf_any kd W hk0 hk1
  have q0 := cell_of_row _ _ 0 _ _ _ HBX.out
  have HW1 := Lib.hid hW1
  clear hW1 hn hkd hown hb hv hQ he hT
  go_enter Tryd.func50, Tryd.ntmps50
  go_upto_region 1 with fail
  rw [← HW1.out]
  go_wp2_with fail
  refine (CC W1).mono ?_
  rintro e w' ⟨rfl, rfl⟩
  rename_i K1 hK1 K hK
  refine hK _ _ ?_
  go_wp2_with (at_builtin; refine wpList_append_own _ rfl _ _ 22 rfl base 5 i0 (.int .u8 0) 1 1 Tryd.underlying22 hi hz0 hz1 hz2 rfl (by decide) _ n _ rfl (hown1.alloc _) ⟨W1.heap.size, 0, none⟩ 1 1 [.int .u8 (Bson.code kd : Nat)] rfl rfl ?c1 ?c2 ?c4 ?c5 ?c6 ?_)
  case c1 => exact oneNew8 _ _
  case c2 => intro u hu; simp at hu; subst hu; rfl
  case c4 => unfold maxLen; omega
  case c5 => omega
  case c6 => simp; omega
  intro v3 W3 hown3 hg3 _
  have HR3 : Hid (PutRel base W1 W3) := (PutRel.new ((Below.refl _ W1).alloc (Nat.le_refl _) _) hs1).trans (PutRel.own (hown1.alloc _) (by simp; omega) hg3)
  have hs3 : base ≤ W3.heap.size := Nat.le_trans hs1 HR3.out.below.size
  go_wp2_with (at_builtin; refine Lib.wpList_append_own_string _ rfl _ _ 22 9 rfl base 5 i0 Tryd.underlying22 Tryd.underlying9 hi hz0 hz1 hz2 v3 (n + 1) _ rfl hown3 nm rfl ?c4 ?c5 ?c6 ?_)
  case c4 => unfold maxLen; omega
  case c5 => omega
  case c6 => exact hs3
  intro v4 W4 hown4 hg4 _
  have HR4 : Hid (PutRel base W3 W4) := PutRel.own hown3 hs3 hg4
  have hs4 : base ≤ W4.heap.size := Nat.le_trans hs3 HR4.out.below.size
  clear hg3 hg4 hown3 q0
  go_wp2_with (at_builtin; refine wpList_append_own _ rfl _ _ 22 rfl base 5 i0 (.int .u8 0) 1 1 Tryd.underlying22 hi hz0 hz1 hz2 rfl (by decide) _ (n + 1 + nm.size) _ rfl (hown4.alloc _) ⟨W4.heap.size, 0, none⟩ 1 1 [.int .u8 0] rfl rfl ?c1 ?c2 ?c4 ?c5 ?c6 ?_)
  case c1 => exact oneNew8 _ _
  case c2 => intro u hu; simp at hu; subst hu; rfl
  case c4 => unfold maxLen; omega
  case c5 => omega
  case c6 => simp; omega
  intro v5 W5 hown5 hg5 _
  have HR5 : Hid (PutRel base W4 W5) := (PutRel.new ((Below.refl _ W4).alloc (Nat.le_refl _) _) hs4).trans (PutRel.own (hown4.alloc _) (by simp; omega) hg5)
  have hs5 : base ≤ W5.heap.size := Nat.le_trans hs4 HR5.out.below.size
  have HR := Lib.hid (HR1.out.trans (HR3.out.trans (HR4.out.trans HR5.out)))
  have HB5 := Lib.hid ((HR3.out.trans (HR4.out.trans HR5.out)).keep _ _ _ _ (by decide) HBX.out)
  have q0 := cell_of_row _ _ 0 _ _ _ HB5.out
  have q1 := cell_of_row _ _ 1 _ _ _ HB5.out
  have q2 := cell_of_row _ _ 2 _ _ _ HB5.out
  have q3 := cell_of_row _ _ 3 _ _ _ HB5.out
  have q4 := cell_of_row _ _ 4 _ _ _ HB5.out
  have q5 := cell_of_row _ _ 5 _ _ _ HB5.out
  have HO5 : Hid (Own8 W5 base v5 (bs ++ (Bson.code kd :: (Bson.bytes nm ++ [0])))) := by
    refine ⟨?_, hs5⟩
    have e : (bs ++ (Bson.code kd :: (Bson.bytes nm ++ [0]))).length = n + 1 + nm.size + 1 := by simp [Bson.bytes_length]; have := HN.out; omega
    rw [e, ← u8s_snoc]
    rw [strCells_u8s] at hown5
    have e2 : u8s (Bson.code kd :: (Bson.bytes nm ++ [0])) = [.int .u8 (Bson.code kd : Nat)] ++ u8s (Bson.bytes nm) ++ [.int .u8 0] := by simp [u8s, u8]
    rw [e2]
    simpa using hown5
  have CP := Lib.hid (IH.out Q (h + 1) x _ W5 base v5 _ xs (HV.out.based HQ.out HR.out.below) HQ.out HO5.out HE.out (by simp [Bson.bytes_length]; have := HN.out; omega) (fun W hb => HT.out W (HR.out.below.trans hb)))
  clear hown4 hown5 hg5 hc256
  go_wp2_with fail
  refine CP.out.mono ?_
  rintro e W6 ⟨v6, rfl, hO6, hR6⟩
  have HO6 := Lib.hid hO6
  have HR6 := Lib.hid (HR.out.trans hR6)
  clear hO6 hR6
  go_wp2_with fail
  go_ret
  refine ⟨v6, rfl, ?_, HR6.out⟩
  have h1 := HO6.out
  rw [List.append_assoc] at h1
  simpa using h1
end Go.Proofs.YtpiookgkkaafeaaDoor
end
