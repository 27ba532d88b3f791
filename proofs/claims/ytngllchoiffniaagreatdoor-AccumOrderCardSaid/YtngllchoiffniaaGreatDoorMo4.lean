/- ValBuild, AccumLeaf, BsonHoldM, NumBox, OrderText, PathEachF, PathEachV. -/
import Derived.Deep.QuietTactic
import Derived.BigQuiet
import Derived.Deep.CutRange
import Derived.Deep.RegionHeld3
import Derived.IntWalk
import Derived.WalkSpells
import Derived.Test.YtngllchoiffniaaGreatDoorMo2
import Derived.Test.YtngllchoiffniaaGreatDoorMo3
import Derived.Test.YtngllchoiffniaaGreatDoorMo0
set_option maxRecDepth 100000
set_option maxHeartbeats 20000000
section
namespace Go.Proofs.YtngllchoiffniaaGreatDoor
open Go.RowKit
open Seal
open Bson (Val)
theorem plain_lim (k n : Int) (f : List (ByteArray × Val)) (l : List Val) (hk : -9223372036854775808 ≤ k ∧ k ≤ 9223372036854775807) (hn : -9223372036854775808 ≤ n ∧ n ≤ 9223372036854775807) (hf : f.length ≤ 1172812402961) (hl : l.length ≤ 1353245080339) : Lim (.mk k n ⟨#[]⟩ [] f l) :=
 ⟨hk.1, hk.2, hn.1, hn.2, by show (0 : Nat) ≤ _; omega, by show (0 : Nat) ≤ _; omega, hf, hl, fun c hc => by cases hc⟩
theorem leaf_in (w : World) (Q : Nat → Prop) (k n : Int) (hk : -9223372036854775808 ≤ k ∧ k ≤ 9223372036854775807) (hn : -9223372036854775808 ≤ n ∧ n ≤ 9223372036854775807) (h : Nat) :
  VIn w Q (h + 1) (.mk k n ⟨#[]⟩ [] [] []) (.agg #[.int .i64 k, .int .i64 n, .string ⟨#[]⟩, .slice none 0 0, .slice none 0 0, .slice none 0 0]) :=
 ⟨none, none, none, 0, 0, 0, rfl, plain_lim k n [] [] hk hn (by simp) (by simp), ⟨Nat.le_refl _, by omega⟩, ⟨Nat.le_refl _, by omega⟩, ⟨Nat.le_refl _, by omega⟩, .inl rfl, .inl rfl, .inl rfl⟩
theorem doc_in {w : World} {Q : Nat → Prop} {h g : Nat} {nm : ByteArray} {x : Val} {c0 c1 c2 c3 c4 c5 : Value} {t : TypeId} (hr : w.heap[g]? = some (.cells #[.string nm, c0, c1, c2, c3, c4, c5] t (0, 0))) (hq : Q g) (hnm : nm.size ≤ 140737488355328) (hx : VIn w Q h x (.agg #[c0, c1, c2, c3, c4, c5])) :
  VIn w Q (h + 1) (.mk 6 0 ⟨#[]⟩ [] [(nm, x)] []) (.agg #[.int .i64 6, .int .i64 0, .string ⟨#[]⟩, .slice none 0 0, .slice (some ⟨g, 0, none⟩) 1 1, .slice none 0 0]) := by
 refine ⟨none, some ⟨g, 0, none⟩, none, 0, 1, 0, rfl, plain_lim 6 0 _ [] (by omega) (by omega) (by simp) (by simp), ⟨Nat.le_refl _, by omega⟩, ⟨Nat.le_refl _, by omega⟩, ⟨Nat.le_refl _, by omega⟩, .inl rfl, .inr ⟨g, 0, rfl, hq, fun i hi => ?_⟩, .inl rfl⟩
 obtain rfl : i = 0 := by simp [Val.f] at hi; omega
 refine ⟨(cell_of_row _ _ 0 _ _ _ hr).trans rfl, hnm, _, ⟨c0, c1, c2, c3, c4, c5, rfl, ?_, ?_, ?_, ?_, ?_, ?_⟩, hx⟩
 ·exact (cell_of_row _ _ 1 _ _ _ hr).trans rfl
 ·exact (cell_of_row _ _ 2 _ _ _ hr).trans rfl
 ·exact (cell_of_row _ _ 3 _ _ _ hr).trans rfl
 ·exact (cell_of_row _ _ 4 _ _ _ hr).trans rfl
 ·exact (cell_of_row _ _ 5 _ _ _ hr).trans rfl
 ·exact (cell_of_row _ _ 6 _ _ _ hr).trans rfl
end Go.Proofs.YtngllchoiffniaaGreatDoor
end
section
namespace Go.Proofs.YtngllchoiffniaaGreatDoor
open Go.RowKit
open Seal
namespace Acc
open Num
theorem number_any (k : Int) (c1 c2 c3 c4 c5 : Value) (w : World) : Calls Tryz.prog 43 #[.agg #[.int .i64 k, c1, c2, c3, c4, c5]] w (BoolBe (numB k) w) := by
 by_cases h : k = 3
 ·subst h
  go_enter Tryz.func43, Tryz.ntmps43
  go_wp2_with fail
  go_ret
  exact ⟨rfl, (Below.refl _ _).alloc (Nat.le_refl _) _⟩
 by_cases h2 : k = 4
 ·subst h2
  go_enter Tryz.func43, Tryz.ntmps43
  go_wp2_with fail
  go_ret
  exact ⟨rfl, (Below.refl _ _).alloc (Nat.le_refl _) _⟩
 have hB := Lib.hid (show numB k = false by simp [numB, h, h2])
 have e1 : ((k : Int) == 3) = false := by rw [beq_eq_false_iff_ne]; exact h
 have e2 : ((k : Int) == 4) = false := by rw [beq_eq_false_iff_ne]; exact h2
 rw [hB.out]
 go_enter Tryz.func43, Tryz.ntmps43
 go_wp2_with fail
 go_ret
 exact ⟨rfl, (Below.refl _ _).alloc (Nat.le_refl _) _⟩
theorem nought_any (w : World) : Calls Tryz.prog 23 #[] w (ValBe 3 0 w) := by
 have hO := Lib.hid (fun w : World => (show Calls Tryz.prog 46 #[.int .i64 0] w (ValBe 3 0 w) from of_any 0 w))
 go_enter Tryz.func23, Tryz.ntmps23
 go_wp2_with (go_at_call 46; refine (hO.out _).mono ?_; rintro e w' ⟨rfl, hb⟩; have HE : w'.heap[w.heap.size]? = some (.cells #[.int .i64 0, .int .i64 0, .string ⟨#[]⟩, .slice none 0 0, .slice none 0 0, .slice none 0 0] 35 (0, 0)) := (hb.block _ (by simp)).trans (heap_alloc_new w _); have g0 := (cell_of_row w' _ 0 _ _ _ HE).trans rfl; have z0 := frozen_of_row w' _ 0 _ _ HE; have g1 := (cell_of_row w' _ 1 _ _ _ HE).trans rfl; have z1 := frozen_of_row w' _ 1 _ _ HE; have g2 := (cell_of_row w' _ 2 _ _ _ HE).trans rfl; have z2 := frozen_of_row w' _ 2 _ _ HE; have g3 := (cell_of_row w' _ 3 _ _ _ HE).trans rfl; have z3 := frozen_of_row w' _ 3 _ _ HE; have g4 := (cell_of_row w' _ 4 _ _ _ HE).trans rfl; have z4 := frozen_of_row w' _ 4 _ _ HE; have g5 := (cell_of_row w' _ 5 _ _ _ HE).trans rfl; have z5 := frozen_of_row w' _ 5 _ _ HE)
 have h0 : Below w.heap.size w w' := ((Below.refl _ _).alloc (Nat.le_refl _) _).trans (hb.mono (by simp))
 exact bodyPost_ret (v := .agg #[.int .i64 3, .int .i64 0, .string ⟨#[]⟩, .slice none 0 0, .slice none 0 0, .slice none 0 0]) (by simp [results, Tryz.results23, go_sem, g0, g1, g2, g3, g4, g5]) rfl ⟨rfl, puts_below h0 (G := w.heap.size) (Nat.le_refl _) [.int .i64 3, .int .i64 0, .string ⟨#[]⟩, .slice none 0 0, .slice none 0 0, .slice none 0 0] 0⟩
theorem orNull_null (c1 c2 c3 c4 c5 : Value) (w : World) : Calls Tryz.prog 41 #[.agg #[.int .i64 0, c1, c2, c3, c4, c5]] w (ValBe 2 0 w) := by
 go_enter Tryz.func41, Tryz.ntmps41
 go_wp2_with fail
 exact bodyPost_ret (v := .agg #[.int .i64 2, .int .i64 0, .string ⟨#[]⟩, .slice none 0 0, .slice none 0 0, .slice none 0 0]) (by simp [results, Tryz.results41, go_sem]) rfl ⟨rfl, (((Below.refl _ _).alloc (Nat.le_refl _) _).alloc (by simp) _)⟩
end Acc
end Go.Proofs.YtngllchoiffniaaGreatDoor
end
section
namespace Go.Proofs.YtngllchoiffniaaGreatDoor
open Go.RowKit
open Seal
open Bson (Val)
theorem same_keyS (s t : ByteArray) : (keyS t).sameKey (keyS s) = true ↔ s = t := by
 unfold keyS
 show (t.data.toList == s.data.toList) = true ↔ _
 rw [beq_iff_eq]
 constructor
 ·intro h2
  exact ByteArray.ext (Array.ext' h2.symm)
 ·rintro rfl; rfl
theorem keys_any (l : List ByteArray) (s : ByteArray) : (l.map keyS).any (fun y => y.sameKey (keyS s)) = true ↔ s ∈ l := by
 rw [List.any_eq_true]
 constructor
 ·rintro ⟨x, h1, h2⟩
  obtain ⟨t, h3, rfl⟩ := List.mem_map.1 h1
  rw [(same_keyS s t).1 h2]; exact h3
 ·intro h
  exact ⟨keyS s, List.mem_map.2 ⟨s, h, rfl⟩, (same_keyS s s).2 rfl⟩
theorem keys_lit (l : List ByteArray) : ∀ x ∈ l.map keyS, WideAt.IsKeyLit x := by
 intro x hx
 obtain ⟨s, _, rfl⟩ := List.mem_map.1 hx
 trivial
theorem keys_fold : ∀ (l p : List ByteArray), (p ++ l).Nodup → (l.map keyS).foldl Maps.addKey (p.map keyS) = (p ++ l).map keyS
 | [], p, _ => by simp
 | s :: r, p, h => by
  rw [List.map_cons, List.foldl_cons]
  have hs : s ∉ p := by
   rw [List.nodup_append] at h
   exact fun hm => h.2.2 s hm s List.mem_cons_self rfl
  have e : Maps.addKey (p.map keyS) (keyS s) = (p ++ [s]).map keyS := by
   unfold Maps.addKey
   rw [if_neg (fun hh => hs ((keys_any p s).1 hh))]
   simp
  rw [e, keys_fold r (p ++ [s]) (by simpa using h)]
  simp
theorem setNms_size (f : List (ByteArray × Val)) (k : Nat) (hk : k ≤ f.length) (hd : (f.map (·.1)).Nodup) : Maps.size (setNms f k) = k := by
 have e : (f.take k).map (fun p => keyS p.1) = ((f.take k).map (·.1)).map keyS := by rw [List.map_map]; rfl
 unfold setNms
 rw [e, Maps.size_setOf _ _ (keys_lit _)]
 have h := keys_fold ((f.take k).map (·.1)) [] (by
  rw [List.nil_append, List.map_take]; exact hd.sublist (List.take_sublist _ _))
 rw [List.map_nil, List.nil_append] at h
 rw [h]
 simp
 omega
theorem setNms_next (f : List (ByteArray × Val)) (k : Nat) (hk : k < f.length) : setNms f (k + 1) = (setNms f k).put (keyS f[k].1) (.agg []) := by
 unfold setNms
 rw [List.take_succ_eq_append_getElem hk, List.map_append]
 exact Maps.setOf_snoc _ _ _
theorem setNms_has (f : List (ByteArray × Val)) (s : ByteArray) : Maps.has (setNms f f.length) (keyS s) = hasName f s := by
 have e : (f.take f.length).map (fun p => keyS p.1) = (f.map (·.1)).map keyS := by rw [List.take_length, List.map_map]; rfl
 unfold setNms
 rw [e, Maps.has_setOf _ _ _ (keys_lit _)]
 unfold hasName
 rw [Bool.eq_iff_iff, keys_any, List.any_eq_true, List.mem_map]
 constructor
 ·rintro ⟨p, h1, h2⟩; exact ⟨p, h1, decide_eq_true h2⟩
 ·rintro ⟨p, h1, h2⟩; exact ⟨p, h1, of_decide_eq_true h2⟩
theorem setNms_zero (f : List (ByteArray × Val)) : setNms f 0 = .map [] := rfl
section
variable {w w1 w' : World} {gn bm g o : Nat} {v : Value} {f : List (ByteArray × Val)}
theorem cell_block (h : w.cell? ⟨g, o, none⟩ = some v) : ∃ cs t fr, w.heap[g]? = some (.cells cs t fr) := by
 unfold World.cell? at h
 cases hb : w.heap[g]? with
 | none => rw [hb] at h; cases h
 | some b =>
  cases b with
  | cells cs t fr => exact ⟨cs, t, fr, rfl⟩
  | _ => rw [hb] at h; cases h
theorem HMove.cell (h : HMove gn w w') (hc : w.cell? ⟨g, o, none⟩ = some v) (hne : g ≠ gn) : w'.cell? ⟨g, o, none⟩ = some v := by
 obtain ⟨cs, t, fr, hb⟩ := cell_block hc
 exact (World.cell?_of_block (a := ⟨g, o, none⟩) (h.2.2.2.2.1 g cs t fr hne hb)).trans hc
theorem HMove.refl (gn : Nat) (w : World) : HMove gn w w := ⟨rfl, rfl, rfl, Nat.le_refl _, fun _ _ _ _ _ _ => rfl, fun _ _ => rfl⟩
theorem HMove.trans (h : HMove gn w w1) (h2 : HMove gn w1 w') : HMove gn w w' :=
 ⟨h2.1.trans h.1, h2.2.1.trans h.2.1, h2.2.2.1.trans h.2.2.1, Nat.le_trans h.2.2.2.1 h2.2.2.2.1, fun g cs t fr hne hb => (h2.2.2.2.2.1 g cs t fr hne ((h.2.2.2.2.1 g cs t fr hne hb).trans hb)).trans (h.2.2.2.2.1 g cs t fr hne hb), fun g hg => (h2.2.2.2.2.2 g hg).trans (h.2.2.2.2.2 g hg)⟩
theorem HMove.of_map (hg : w.grownBy w' (some bm)) (hm : ∀ cs t fr, w.heap[bm]? ≠ some (.cells cs t fr)) (hlt : gn < bm) (hgl : gn < w.heap.size) : HMove gn w w' :=
 ⟨hg.os, hg.tape, hg.output, hg.size, fun g cs t fr _ hb => hg.block g (Array.getElem?_eq_some_iff.1 hb).1 (fun e => hm cs t fr (by rw [← Option.some.inj e]; exact hb)), fun g hgg => hg.block g (by omega) (fun e => by have := Option.some.inj e; omega)⟩
theorem HMove.set (u : Value) : HMove gn w (w.setCell ⟨gn, 0, none⟩ u) :=
 ⟨rfl, rfl, rfl, by simp, fun g cs t fr hne _ => Below.heap_setCell w ⟨gn, 0, none⟩ u g hne, fun g hgg => Below.heap_setCell w ⟨gn, 0, none⟩ u g (by show g ≠ gn; omega)⟩
theorem no_cells {k : Nat} {D : DataW Unit} (h : w.ownsMap Tryz.prog 9 (unitElem (H := Unit)) bm k D) : ∀ cs t fr, w.heap[bm]? ≠ some (.cells cs t fr) := by
 obtain ⟨es, clock, hb, _⟩ := h
 intro cs t fr h2
 rw [hb] at h2
 cases h2
end
theorem set_map {w : World} {gn : Nat} {u0 u : Value} {t : TypeId} (h : w.heap[gn]? = some (.cells #[u0] t (0, 0))) : (w.setCell ⟨gn, 0, none⟩ u).heap[gn]? = some (.cells #[u] t (0, 0)) := by
 rw [heap_setCell_same w gn 0 _ t u h]; rfl
theorem key_str (s : ByteArray) (hs : s.size ≤ maxLen) : keyOf Tryz.prog 9 (.string s) = some (keyS s) := by
 rw [keyOf_string Tryz.underlying9]
 unfold mapKey
 rw [Tryz.underlying9]
 exact if_pos hs
def HoldAt (w : World) (gn bm k m : Nat) (f : List (ByteArray × Val)) : Prop := w.heap[gn]? = some (.cells #[.map (some bm)] 117 (0, 0)) ∧ gn < bm ∧ w.ownsMap Tryz.prog 9 (unitElem (H := Unit)) bm m (setNms f k)
theorem HoldAt.cell {w : World} {gn bm k m : Nat} {f : List (ByteArray × Val)} (h : HoldAt w gn bm k m f) : w.cell? ⟨gn, 0, none⟩ = some (.map (some bm)) := cell_of_row w gn 0 _ _ _ h.1
theorem HoldAt.gl {w : World} {gn bm k m : Nat} {f : List (ByteArray × Val)} (h : HoldAt w gn bm k m f) : gn < w.heap.size := (Array.getElem?_eq_some_iff.1 h.1).1
theorem HoldAt.keep {w w' : World} {gn bm k m : Nat} {f : List (ByteArray × Val)} (h : HoldAt w gn bm k m f) (hb : Below w.heap.size w w') : HoldAt w' gn bm k m f :=
 ⟨(hb.block gn h.gl).trans h.1, h.2.1, h.2.2.kept (row := none) ⟨hb.os, hb.tape, hb.output, hb.size, fun j hj _ => hb.block j hj⟩ nofun⟩
theorem hold_many (Q : Nat → Prop) (h : Nat) (w : World) (gn : Nat) (a : Option Addr) (n c : Nat) (f : List (ByteArray × Val)) (s : ByteArray) (hn : f.length = n) (hm : 16 < n) (hmx : n ≤ 140737488355328) (hnc : n ≤ c) (hc2 : c ≤ 9223372036854775807) (hss : s.size ≤ 140737488355328)
  (hF : FieldsIn w Q (VIn w Q h) a f) (hd : (f.map (·.1)).Nodup) (hN : Nms w gn f) :
  Calls Tryz.prog 104 #[.pointer (some ⟨gn, 0, none⟩), .slice a n c, .string s] w fun e w' => e = .returned (.bool (hasName f s)) ∧ HMove gn w w' ∧ Nms w' gn f := by
 have HN := Lib.hid hn
 have HD := Lib.hid hd
 have hgl := hN.lt
 obtain ⟨g, o, rfl, -, hall⟩ := hF.resolve_left (fun e => by rw [e] at hn; simp at hn; omega)
 have HALL : Hid (∀ (i : Nat) (hi : i < f.length), w.cell? ⟨g, o + i * 7, none⟩ = some (.string f[i].1) ∧ f[i].1.size ≤ 140737488355328 ∧ ∃ (q1 q2 : Int) (q3 : ByteArray) (a1 : Option Addr) (n1 c1 : Nat) (a2 : Option Addr) (n2 c2 : Nat) (a3 : Option Addr) (n3 c3 : Nat), SixAt w g (o + i * 7 + 1) (.agg #[.int .i64 q1, .int .i64 q2, .string q3, .slice a1 n1 c1, .slice a2 n2 c2, .slice a3 n3 c3])) := fun i hi => ⟨(hall i hi).1, (hall i hi).2.1, by
  obtain ⟨v, h1, h2⟩ := (hall i hi).2.2
  obtain ⟨q1, q2, q3, a1, n1, c1, a2, n2, c2, a3, n3, c3, rfl⟩ := VIn.form h2
  exact ⟨q1, q2, q3, a1, n1, c1, a2, n2, c2, a3, n3, c3, h1⟩⟩
 have HG : Hid (g ≠ gn) := by
  intro e
  have h1 := (hall 0 (by omega)).1
  rw [Nat.zero_mul, Nat.add_zero, e] at h1
  rcases hN with h2 | ⟨bm, k, h2, _⟩
  all_goals
   unfold World.cell? at h1
   rw [h2] at h1
   cases o with
   | zero => simp at h1
   | succ o => simp at h1
 have hem : ∀ (w : World) (r : Option Nat), (binOp .eql 115 (.map r) (.map none)).run Tryz.prog w = .ok (.bool r.isNone) w := fun w r => run_eql_map_nil w _ _ _ r Tryz.underlying115
 have hmm := @run_makeMap Tryz.prog
 obtain ⟨r, hr, hcase⟩ : ∃ r, w.heap[gn]? = some (.cells #[.map r] 117 (0, 0)) ∧ (r = none ∨ ∃ bm k, r = some bm ∧ k ≤ n ∧ HoldAt w gn bm k k f) := by
  rcases hN with h2 | ⟨bm, k, h2, h3, h4, h5⟩
  ·exact ⟨none, h2, .inl rfl⟩
  ·exact ⟨some bm, h2, .inr ⟨bm, k, rfl, by omega, h2, h3, h5⟩⟩
 have c0 := cell_of_row w gn 0 _ _ _ hr
 have HR := Lib.hid hr
 have HC := Lib.hid hcase
 have hmi : ¬ ((n : Int) ≤ 16) := by omega
 clear hall hF hd hn hr hcase hN
 go_enter Tryz.func104, Tryz.ntmps104
 go_upto_if 22 with fail
 go_cut [] from 22 to 26 (fun W => Hid (∃ bm k, k ≤ n ∧ HoldAt W gn bm k k f ∧ HMove gn w W))
 case first =>
  cases r with
  | none =>
   have HB : Hid (Below w.heap.size w (w.alloc (.map #[] 0))) := (Below.refl _ w).alloc (Nat.le_refl _) _
   have c1 := cell_keep HB.out c0
   have f1 : (w.alloc (.map #[] 0)).frozen? ⟨gn, 0, none⟩ = false := frozen_of_row _ gn 0 _ _ ((HB.out.block gn hgl).trans HR.out)
   have hss2 : (w.setCell ⟨gn, 0, none⟩ (.map (some w.heap.size))).heap.size = w.heap.size := by simp
   have HB2 : Hid (Below (w.setCell ⟨gn, 0, none⟩ (.map (some w.heap.size))).heap.size (w.setCell ⟨gn, 0, none⟩ (.map (some w.heap.size))) ((w.setCell ⟨gn, 0, none⟩ (.map (some w.heap.size))).alloc (.map #[] 0))) := (Below.refl _ _).alloc (Nat.le_refl _) _
   have HN2 : Hid (∃ bm k, k ≤ n ∧ HoldAt ((w.setCell ⟨gn, 0, none⟩ (.map (some w.heap.size))).alloc (.map #[] 0)) gn bm k k f ∧ HMove gn w ((w.setCell ⟨gn, 0, none⟩ (.map (some w.heap.size))).alloc (.map #[] 0))) := by
    refine ⟨w.heap.size, 0, Nat.zero_le _, ⟨?_, hgl, ?_⟩, (HMove.set _).trans (HMove.of_below HB2.out (by rw [hss2]; exact hgl))⟩
    ·exact (HB2.out.block gn (by rw [hss2]; exact hgl)).trans (set_map HR.out)
    ·have h1 := World.ownsMap_made (H := Unit) (w.setCell ⟨gn, 0, none⟩ (.map (some w.heap.size))) Tryz.prog 9 unitElem
     rw [hss2] at h1
     rw [setNms_zero]
     exact h1
   clear hss2 HB2
   go_wp2_with fail
   go_meet
   exact HN2
  | some bm =>
   have HN2 : Hid (∃ bm k, k ≤ n ∧ HoldAt w gn bm k k f ∧ HMove gn w w) := by
    rcases HC.out with e | ⟨bm2, k, e, hk, ha⟩
    ·cases e
    ·exact ⟨bm2, k, hk, ha, HMove.refl _ _⟩
   go_wp2_with fail
   go_meet
   exact HN2
 case rest =>
  obtain ⟨bm, k, hk, hO, hM⟩ := hcut.out
  have HO := Lib.hid hO
  have HM := Lib.hid hM
  have c1 := hO.cell
  have hsz := setNms_size f k (by have := HN.out; omega) HD.out
  have ZU : ∀ w, (zeroValue 127).run Tryz.prog w = .ok (.agg #[]) w := fun w => by kernel_rfl
  have KS : Maps.Keyed Tryz.prog 9 := Maps.string_keyed Tryz.underlying9
  have hlr := hO.2.2.len Tryz.underlying115 3
  rw [hsz] at hlr
  clear hcut hO hM c0 hmi HR HC
  by_cases hkn : k < n
  ·have hck : ¬ c = k := by omega
   have hck2 : ¬ (c : Int) = (k : Int) := by omega
   have hck3 : ¬ c - k = 0 := by omega
   go_wp2_with fail
   go_loopw [35] (fun i wr => ∃ j : Nat, i = .int .i64 j ∧ k + j ≤ n ∧ Hid (HoldAt wr gn bm (k + j) (k + j) f) ∧ Hid (HMove gn w wr)) (fun i _ => n - k - (intOf i).toNat)
   case atStart => exact ⟨0, rfl, hk, HO, HM⟩
   case round =>
    obtain ⟨j, rfl, hj, HOJ, HMJ⟩ := hrel
    by_cases hlt : k + j < n
    ·have hf : k + j < f.length := by rw [HN.out]; exact hlt
     obtain ⟨hnm, hnl, x1, x2, x3, a1, n1, c1x, a2, n2, c2, a3, n3, c3, hsix⟩ := HALL.out (k + j) hf
     obtain ⟨d0, d1, d2, d3, d4, d5, he6, s0, s1, s2, s3, s4, s5⟩ := hsix
     obtain ⟨rfl, rfl, rfl, rfl, rfl, rfl⟩ : d0 = .int .i64 x1 ∧ d1 = .int .i64 x2 ∧ d2 = .string x3 ∧ d3 = .slice a1 n1 c1x ∧ d4 = .slice a2 n2 c2 ∧ d5 = .slice a3 n3 c3 := by
      simp only [Value.agg.injEq, Array.mk.injEq, List.cons.injEq, and_true] at he6
      obtain ⟨e0, e1, e2, e3, e4, e5⟩ := he6
      exact ⟨e0.symm, e1.symm, e2.symm, e3.symm, e4.symm, e5.symm⟩
     clear he6
     have q0 := HMJ.out.cell hnm HG.out
     have q1 := HMJ.out.cell s0 HG.out
     have q2 := HMJ.out.cell s1 HG.out
     have q3 := HMJ.out.cell s2 HG.out
     have q4 := HMJ.out.cell s3 HG.out
     have q5 := HMJ.out.cell s4 HG.out
     have q6 := HMJ.out.cell s5 HG.out
     have eo : o + (k + j) * 7 = o + k * 7 + j * 7 := by omega
     rw [eo] at q0 q1 q2 q3 q4 q5 q6
     have HNX := Lib.hid (setNms_next f (k + j) hf)
     have hks := key_str f[k + j].1 (by unfold maxLen; omega)
     generalize f[k + j].1 = nm at *
     have hlj : j < n - k := by omega
     have hmx2 : k + j < maxLen := by unfold maxLen; omega
     clear s0 s1 s2 s3 s4 s5 hnm
     go_upto_region 8 with fail
     have HBX : Hid (Below wr.heap.size wr (wr.alloc (.cells #[.string nm, .int .i64 x1, .int .i64 x2, .string x3, .slice a1 n1 c1x, .slice a2 n2 c2, .slice a3 n3 c3] 38))) := (Below.refl _ wr).alloc (Nat.le_refl _) _
     have HOB := Lib.hid (HOJ.out.keep HBX.out)
     have cm := HOB.out.cell
     have cb : (wr.alloc (.cells #[.string nm, .int .i64 x1, .int .i64 x2, .string x3, .slice a1 n1 c1x, .slice a2 n2 c2, .slice a3 n3 c3] 38)).cell? ⟨wr.heap.size, 0, none⟩ = some (.string nm) := (cell_of_row _ _ 0 _ _ _ (heap_alloc_new wr _)).trans rfl
     have HMB := Lib.hid (HMJ.out.trans (HMove.of_below HBX.out HOJ.out.gl))
     generalize (wr.alloc (.cells #[.string nm, .int .i64 x1, .int .i64 x2, .string x3, .slice a1 n1 c1x, .slice a2 n2 c2, .slice a3 n3 c3] 38)) = W2 at *
     refine wp_region_still_tail 7 (by kernel_rfl) (by kernel_rfl) ?_
     simp only [List.take_succ_cons, List.take_zero, List.drop_succ_cons, List.drop_zero]
     iterate 7 still_step
     refine wpStill_nil ?_
     change wpList _ _ _ _ _ W2.drew
     have HOD : Hid (HoldAt W2.drew gn bm (k + j) (k + j) f) := HOB.out
     have HMD : Hid (HMove gn w W2.drew) := HMB.out
     refine wpList_mapUpdate_own _ rfl _ _ _ 115 rfl 9 127 KS Tryz.underlying115 (unitElem (H := Unit)) bm (k + j) _ rfl HOD.out.2.2 hmx2 _ _ _ rfl rfl hks _ [] unitElem_mk ?_
     intro w1 hown1 hgrow1
     have HO2 : Hid (HoldAt w1 gn bm (k + (j + 1)) (k + (j + 1)) f) := by
      refine ⟨(hgrow1.block gn HOD.out.gl (fun e => by have := Option.some.inj e; have := HOD.out.2.1; omega)).trans HOD.out.1, HOD.out.2.1, ?_⟩
      rw [show k + (j + 1) = k + j + 1 by omega, HNX.out]
      exact hown1
     have HM2 : Hid (HMove gn w w1) := HMD.out.trans (HMove.of_map hgrow1 (no_cells HOD.out.2.2) HOD.out.2.1 HOD.out.gl)
     clear hown1 hgrow1 HNX
     go_wp2_with fail
     go_roundw
     case rel => exact ⟨j + 1, by go_num, by omega, HO2, HM2⟩
     case measure => simp [intOf]; omega
    ·obtain rfl : j = n - k := by omega
     have HOE : Hid (HoldAt wr gn bm n n f) := by have h1 := HOJ.out; rw [show k + (n - k) = n by omega] at h1; exact h1
     have hme := HMJ.out
     have hce := HOE.out.cell
     have hks := key_str s (by unfold maxLen; omega)
     have hhas : Maps.has (setNms f n) (keyS s) = hasName f s := by have h1 := setNms_has f s; rw [HN.out] at h1; exact h1
     obtain ⟨hb, hhb⟩ : ∃ b, b = hasName f s := ⟨_, rfl⟩
     rw [← hhb] at hhas
     have HHB := Lib.hid hhb
     clear hhb
     have HME := Lib.hid hme
     clear hme
     go_wp2_with (at_lookup; refine wpList_lookup_own_unit _ rfl _ _ 115 rfl 9 127 KS Tryz.underlying115 (ZU _) bm n _ rfl HOE.out.2.2 _ _ rfl hks ?_; rw [hhas])
     go_ret
     have hBE := (Below.refl wr.heap.size wr).alloc (Nat.le_refl _) (.cells #[] 127)
     exact ⟨ret_eq (by rw [← HHB.out]; rfl), HME.out.trans (HMove.of_below hBE HOE.out.gl), .inr ⟨bm, n, (HOE.out.keep hBE).1, HOE.out.2.1, by rw [HN.out]; exact Nat.le_refl _, (HOE.out.keep hBE).2.2⟩⟩
  ·obtain rfl : k = n := by omega
   go_wp2_with fail
   all_goals
    go_loopw [35] (fun i wr => i = .int .i64 0 ∧ Hid (HoldAt wr gn bm k k f) ∧ Hid (HMove gn w wr)) (fun _ _ => 0)
    case atStart => exact ⟨rfl, HO, HM⟩
    case round =>
     obtain ⟨rfl, HOE, HMJ⟩ := hrel
     have hme := HMJ.out
     have hce := HOE.out.cell
     have hks := key_str s (by unfold maxLen; omega)
     have hhas : Maps.has (setNms f k) (keyS s) = hasName f s := by have h1 := setNms_has f s; rw [HN.out] at h1; exact h1
     obtain ⟨hb, hhb⟩ : ∃ b, b = hasName f s := ⟨_, rfl⟩
     rw [← hhb] at hhas
     have HHB := Lib.hid hhb
     clear hhb
     have HME := Lib.hid hme
     clear hme
     go_wp2_with (at_lookup; refine wpList_lookup_own_unit _ rfl _ _ 115 rfl 9 127 KS Tryz.underlying115 (ZU _) bm k _ rfl HOE.out.2.2 _ _ rfl hks ?_; rw [hhas])
     go_ret
     have hBE := (Below.refl wr.heap.size wr).alloc (Nat.le_refl _) (.cells #[] 127)
     exact ⟨ret_eq (by rw [← HHB.out]; rfl), HME.out.trans (HMove.of_below hBE HOE.out.gl), .inr ⟨bm, k, (HOE.out.keep hBE).1, HOE.out.2.1, by rw [HN.out]; exact Nat.le_refl _, (HOE.out.keep hBE).2.2⟩⟩
end Go.Proofs.YtngllchoiffniaaGreatDoor
end
section
namespace Go.Proofs.YtngllchoiffniaaGreatDoor
open Go.RowKit
open Seal
open Num
def Got (w : World) (g : Nat) (cs : Array Value) : Prop := w.heap[g]? = some (.cells cs 35 (0, 0))
theorem Got.lt {w : World} {g : Nat} {cs : Array Value} (h : Got w g cs) : g < w.heap.size := (Array.getElem?_eq_some_iff.1 h).1
theorem Got.keep {w w' : World} {g : Nat} {cs : Array Value} (h : Got w g cs) (hb : Below w.heap.size w w') : Got w' g cs := (hb.block g h.lt).trans h
theorem Got.cell {w : World} {g : Nat} {cs : Array Value} (h : Got w g cs) (j : Nat) (v : Value) (hj : cs[j]? = some v) : w.cell? ⟨g, j, none⟩ = some v := (cell_of_row w g j _ _ _ h).trans hj
theorem Got.frozen {w : World} {g : Nat} {cs : Array Value} (h : Got w g cs) (j : Nat) : w.frozen? ⟨g, j, none⟩ = false := frozen_of_row w g j _ _ h
theorem Got.new (w : World) (cs : Array Value) : Got (w.alloc (.cells cs 35)) w.heap.size cs := heap_alloc_new w _
def R3 (w : World) (ca cb : Array Value) (wr : World) : Prop := Got wr w.heap.size ca ∧ Got wr (w.heap.size + 1) cb ∧ Got wr (w.heap.size + 2) #[.int .i64 0, .int .i64 0, .string ⟨#[]⟩, .slice none 0 0, .slice none 0 0, .slice none 0 0] ∧ Below w.heap.size w wr
theorem R3.step {w wr w' : World} {ca cb : Array Value} (h : R3 w ca cb wr) (hb : Below wr.heap.size wr w') : R3 w ca cb w' := ⟨h.1.keep hb, h.2.1.keep hb, h.2.2.1.keep hb, h.2.2.2.trans (hb.mono h.2.2.2.size)⟩
theorem R3.new (w : World) (ca cb : Array Value) : R3 w ca cb (((w.alloc (.cells ca 35)).alloc (.cells cb 35)).alloc (.cells #[.int .i64 0, .int .i64 0, .string ⟨#[]⟩, .slice none 0 0, .slice none 0 0, .slice none 0 0] 35)) := by
 have h1 := Got.new w ca
 have h2 := Got.new (w.alloc (.cells ca 35)) cb
 have h3 := Got.new ((w.alloc (.cells ca 35)).alloc (.cells cb 35)) #[.int .i64 0, .int .i64 0, .string ⟨#[]⟩, .slice none 0 0, .slice none 0 0, .slice none 0 0]
 have k2 : Below (w.alloc (.cells ca 35)).heap.size (w.alloc (.cells ca 35)) ((w.alloc (.cells ca 35)).alloc (.cells cb 35)) := (Below.refl _ _).alloc (Nat.le_refl _) _
 have k3 : Below ((w.alloc (.cells ca 35)).alloc (.cells cb 35)).heap.size ((w.alloc (.cells ca 35)).alloc (.cells cb 35)) (((w.alloc (.cells ca 35)).alloc (.cells cb 35)).alloc (.cells #[.int .i64 0, .int .i64 0, .string ⟨#[]⟩, .slice none 0 0, .slice none 0 0, .slice none 0 0] 35)) := (Below.refl _ _).alloc (Nat.le_refl _) _
 have e1 : (w.alloc (.cells ca 35)).heap.size = w.heap.size + 1 := by simp
 have e2 : ((w.alloc (.cells ca 35)).alloc (.cells cb 35)).heap.size = w.heap.size + 2 := by simp
 have h1' := (h1.keep k2).keep k3
 have h2' := h2.keep k3
 rw [e1] at h2'
 rw [e2] at h3
 exact ⟨h1', h2', h3, (((Below.refl _ w).alloc (Nat.le_refl _) _).alloc (by simp) _).alloc (by simp; omega) _⟩
def Six6 (w : World) (g : Nat) (c0 c1 c2 c3 c4 c5 : Value) : Prop := w.cell? ⟨g, 0, none⟩ = some c0 ∧ w.cell? ⟨g, 1, none⟩ = some c1 ∧ w.cell? ⟨g, 2, none⟩ = some c2 ∧ w.cell? ⟨g, 3, none⟩ = some c3 ∧ w.cell? ⟨g, 4, none⟩ = some c4 ∧ w.cell? ⟨g, 5, none⟩ = some c5
theorem Got.six {w : World} {g : Nat} {c0 c1 c2 c3 c4 c5 : Value} (h : Got w g #[c0, c1, c2, c3, c4, c5]) : Six6 w g c0 c1 c2 c3 c4 c5 := ⟨h.cell 0 _ rfl, h.cell 1 _ rfl, h.cell 2 _ rfl, h.cell 3 _ rfl, h.cell 4 _ rfl, h.cell 5 _ rfl⟩
theorem R3.all {w wr : World} {c0 c1 c2 c3 c4 c5 d0 d1 d2 d3 d4 d5 : Value} (h : R3 w #[c0, c1, c2, c3, c4, c5] #[d0, d1, d2, d3, d4, d5] wr) :
  Six6 wr w.heap.size c0 c1 c2 c3 c4 c5 ∧ Six6 wr (w.heap.size + 1) d0 d1 d2 d3 d4 d5 ∧ Six6 wr (w.heap.size + 2) (.int .i64 0) (.int .i64 0) (.string ⟨#[]⟩) (.slice none 0 0) (.slice none 0 0) (.slice none 0 0) ∧
   wr.frozen? ⟨w.heap.size + 2, 0, none⟩ = false ∧ wr.frozen? ⟨w.heap.size + 2, 1, none⟩ = false ∧ wr.frozen? ⟨w.heap.size + 2, 2, none⟩ = false ∧ wr.frozen? ⟨w.heap.size + 2, 3, none⟩ = false ∧ wr.frozen? ⟨w.heap.size + 2, 4, none⟩ = false ∧ wr.frozen? ⟨w.heap.size + 2, 5, none⟩ = false :=
 ⟨h.1.six, h.2.1.six, h.2.2.1.six, h.2.2.1.frozen 0, h.2.2.1.frozen 1, h.2.2.1.frozen 2, h.2.2.1.frozen 3, h.2.2.1.frozen 4, h.2.2.1.frozen 5⟩
theorem below_six {w w' : World} {B : Nat} (h : Below w.heap.size w w') (hB : w.heap.size ≤ B) (v0 v1 v2 v3 v4 v5 : Value) :
  Below w.heap.size w ((((((w'.setCell ⟨B, 0, none⟩ v0).setCell ⟨B, 1, none⟩ v1).setCell ⟨B, 2, none⟩ v2).setCell ⟨B, 3, none⟩ v3).setCell ⟨B, 4, none⟩ v4).setCell ⟨B, 5, none⟩ v5) :=
 (((((h.setCell hB _).setCell hB _).setCell hB _).setCell hB _).setCell hB _).setCell hB _
def ValE (r : Int × Int × Int) (w : World) (e : Ending) (w' : World) : Prop := e = .returned (.tuple #[.agg #[.int .i64 r.1, .int .i64 r.2.1, .string ⟨#[]⟩, .slice none 0 0, .slice none 0 0, .slice none 0 0], .int .i64 r.2.2]) ∧ Below w.heap.size w w'
theorem val_e {r : Int × Int × Int} {k n e : Int} {w w' : World} (h : r = (k, n, e)) (hb : Below w.heap.size w w') : ValE r w (.returned (.tuple #[.agg #[.int .i64 k, .int .i64 n, .string ⟨#[]⟩, .slice none 0 0, .slice none 0 0, .slice none 0 0], .int .i64 e])) w' := by subst h; exact ⟨rfl, hb⟩
namespace Num
def reck (o : Int × Int) (ak bk : Int) : Int × Int × Int :=
 if noneB ak = true then (2, 0, 0) else if noneB bk = true then (2, 0, 0) else if numB ak = false then (0, 0, 12) else if numB bk = false then (0, 0, 12) else
  if o.2 ≠ 0 then (0, 0, o.2) else if ak = 4 then (4, o.1, 0) else if bk = 4 then (4, o.1, 0) else (ofK o.1, o.1, 0)
end Num
end Go.Proofs.YtngllchoiffniaaGreatDoor
end
section
namespace Go.Proofs.YtngllchoiffniaaGreatDoor
open Go.RowKit
open Seal
theorem bytes_len (s : ByteArray) : (Order.bytes s).length = s.size := by unfold Order.bytes; rw [List.length_map]; exact Array.length_toList
theorem bytes_at (s : ByteArray) (k : Nat) (h : k < s.size) : (Order.bytes s)[k]'(by rw [bytes_len]; exact h) = s[k].toNat := by
 unfold Order.bytes
 rw [List.getElem_map]
 rfl
def TextGo (a b : ByteArray) (k : Nat) : Prop := Order.text a b = Order.lex Order.oct ((Order.bytes a).drop k) ((Order.bytes b).drop k)
theorem TextGo.next {a b : ByteArray} {k : Nat} (h : TextGo a b k) (ha : k < a.size) (hb : k < b.size) (e : a[k].toNat = b[k].toNat) : TextGo a b (k + 1) := by
 unfold TextGo at h ⊢
 rw [h]
 refine Order.lex_step (by rw [bytes_len]; exact ha) (by rw [bytes_len]; exact hb) ?_
 rw [bytes_at a k ha, bytes_at b k hb, e]
 exact Order.sgn_self _
theorem TextGo.here {a b : ByteArray} {k : Nat} (h : TextGo a b k) (ha : k < a.size) (hb : k < b.size) (e : ¬ a[k].toNat = b[k].toNat) : Order.text a b = Order.sgn (a[k].toNat : Int) (b[k].toNat : Int) := by
 unfold TextGo at h
 rw [h]
 refine (Order.lex_here (by rw [bytes_len]; exact ha) (by rw [bytes_len]; exact hb) ?_).trans ?_
 ·rw [bytes_at a k ha, bytes_at b k hb]
  intro e2
  have := Order.sgn_zero.1 e2
  omega
 ·rw [bytes_at a k ha, bytes_at b k hb]; rfl
theorem TextGo.last {a b : ByteArray} {k : Nat} (h : TextGo a b k) (ha : k ≤ a.size) (hb : k ≤ b.size) (e : ¬ (k < a.size ∧ k < b.size)) : Order.text a b = Order.sgn (a.size : Int) (b.size : Int) := by
 unfold TextGo at h
 rw [h, Order.lex_end (by rw [bytes_len]; exact ha) (by rw [bytes_len]; exact hb) (by rw [bytes_len, bytes_len]; omega), bytes_len, bytes_len]
theorem cmpBytes_any (w : World) (a b : Option Addr) (l m : List Nat) (n c n2 c2 : Nat) (hl : l.length = n) (hm : m.length = n2) (h : SliceIs w a l) (h2 : SliceIs w b m) (ho : Oct l) (ho2 : Oct m) :
  Calls Tryz.prog 85 #[.slice a n c, .slice b n2 c2] w (IntPost (Order.blob l m) w) := by
 have HC := Lib.hid (bytesCmp_any w a b l m n c n2 c2 hl hm h h2 ho ho2)
 by_cases e : n = n2
 ·have HB := Lib.hid (show Order.blob l m = Order.octs l m by rw [Order.blob, if_pos (Order.sgn_zero.2 (by omega))])
  have he : Order.sgn (n : Int) (n2 : Int) = 0 := Order.sgn_zero.2 (by omega)
  have hb : (Order.sgn (n : Int) (n2 : Int) != 0) = false := by rw [he]; rfl
  clear h h2 ho ho2 hl hm e he
  go_enter Tryz.func85, Tryz.ntmps85
  go_wp2_with (first | (go_at_call 79; refine (cmpInt_any _ _ _).mono ?_; rintro e w' ⟨rfl, rfl⟩) | (go_at_call 86; refine HC.out.mono ?_; rintro e w' ⟨rfl, rfl⟩))
  go_ret
  exact ⟨ret_i HB.out.symm, rfl⟩
 ·have HB := Lib.hid (show Order.blob l m = Order.sgn (n : Int) (n2 : Int) by
   rw [Order.blob, if_neg (fun x => e (by have := Order.sgn_zero.1 x; omega)), hl, hm])
  have hb : (Order.sgn (n : Int) (n2 : Int) != 0) = true := by
   rw [bne_iff_ne]; intro x; have := Order.sgn_zero.1 x; omega
  clear h h2 ho ho2 hl hm e
  go_enter Tryz.func85, Tryz.ntmps85
  go_wp2_with (go_at_call 79; refine (cmpInt_any _ _ _).mono ?_; rintro e w' ⟨rfl, rfl⟩)
  go_ret
  exact ⟨ret_i HB.out.symm, rfl⟩
end Go.Proofs.YtngllchoiffniaaGreatDoor
end
section
namespace Go.Proofs.YtngllchoiffniaaGreatDoor
open Go.RowKit
open Seal
open Bson (Val)
theorem infoF7 : (Tryz.prog.info? 38).map (fun i => (i.zero, i.size, i.bytes)) = some (some (.agg #[.string ⟨#[]⟩, .int .i64 0, .int .i64 0, .string ⟨#[]⟩, .slice none 0 0, .slice none 0 0, .slice none 0 0]), 7, 120) := by kernel_rfl
theorem run_makeFlds (n : Nat) (hn : n ≤ 1172812402961) (u : World) : (Instr.makeSlice 33 (.int .i64 (n : Int)) (.int .i64 (n : Int))).run Tryz.prog u = .ok (.slice (some ⟨u.heap.size, 0, none⟩) n n) (u.alloc (.cells (madeCells #[.string ⟨#[]⟩, .int .i64 0, .int .i64 0, .string ⟨#[]⟩, .slice none 0 0, .slice none 0 0, .slice none 0 0] (n * 7)) 38)) := by
 obtain ⟨i0, hi, hz0, hz1, hz2⟩ := info_parts infoF7
 have h := run_make (P := Tryz.prog) u 33 38 i0 (.agg #[.string ⟨#[]⟩, .int .i64 0, .int .i64 0, .string ⟨#[]⟩, .slice none 0 0, .slice none 0 0, .slice none 0 0]) Tryz.underlying33 hi hz0 .i64 .i64 (n : Int) (n : Int) (by omega) (Int.le_refl _) (by rw [hz2]; omega) (by omega)
 rw [Int.toNat_natCast] at h
 simpa [hz1, Value.cells] using h
theorem eachF_any (Q : Nat → Prop) (h : Nat) (IH0 : CopyAt Q h) (a : Option Addr) (n c : Nat) (f : List (ByteArray × Val)) (w : World) (hn : f.length = n) (hnb : n ≤ 1172812402961) (hI : FieldsIn w Q (VIn w Q h) a f) :
  Calls Tryz.prog 59 #[.slice a n c, .func (.func 60) #[] #[]] w fun e w' => ∃ a' c', e = .returned (.slice a' n c') ∧ (n ≤ c' ∧ c' ≤ 9223372036854775807) ∧ FieldsIn w' (fun g => w.heap.size ≤ g) (VIn w' (fun g => w.heap.size ≤ g) h) a' f ∧ Below w.heap.size w w' := by
 have IH := Lib.hid (fun nm x c0 c1 c2 c3 c4 c5 w hv => copyfield_any Q h IH0 nm x c0 c1 c2 c3 c4 c5 w hv)
 have HI := Lib.hid hI
 have HN := Lib.hid hn
 have HNL : Hid (∀ i (hi : i < f.length), f[i].1.size ≤ 140737488355328) := by
  intro i hi
  rcases hI with h | ⟨g, o, _, _, h⟩
  ·rw [h] at hi; simp at hi
  ·exact (h i hi).2.1
 clear hI IH0 hn
 have hmk := run_makeFlds n hnb
 have he := fun u : World => Lib.run_eql_slice_nil (P := Tryz.prog) u 33 38 a n c 0 0 Tryz.underlying33
 cases a with
 | none =>
  have hnil : f = [] := by
   rcases HI.out with h | ⟨g, o, e, _⟩
   ·exact h
   ·cases e
  have hn0 : n = 0 := by rw [← HN.out, hnil]; rfl
  subst hn0
  have HNIL := Lib.hid hnil
  clear hnil
  go_enter Tryz.func59, Tryz.ntmps59
  go_wp2_with fail
  go_ret
  exact ⟨none, 0, rfl, ⟨Nat.le_refl _, by omega⟩, .inl HNIL.out, Below.refl _ _⟩
 | some p =>
  go_enter Tryz.func59, Tryz.ntmps59
  go_wp2_with fail
  go_loopw [15] (fun i wr => ∃ k : Nat, i = .int .i64 k ∧ k ≤ n ∧ Hid (Row6 wr w.heap.size 38 (n * 7)) ∧ Hid (Flds wr w.heap.size h f k) ∧ Hid (Below w.heap.size w wr)) (fun i _ => n - (intOf i).toNat)
  case atStart => exact ⟨0, rfl, Nat.zero_le _, ⟨_, heap_alloc_new w _, size_madeCells _ _⟩, Flds.none _ _ _ _, (Below.refl _ w).alloc (Nat.le_refl _) _⟩
  case round =>
   obtain ⟨k, rfl, hk, HR, HVS, HB⟩ := hrel
   by_cases hlt : k < n
   ·obtain ⟨g, o, hla, _, hall⟩ := HI.out.resolve_left (fun e => by have := HN.out; rw [e] at this; simp at this; omega)
    obtain ⟨hnm, hns, v', hsix, hV⟩ := hall k (by have := HN.out; omega)
    obtain rfl := Option.some.inj hla
    obtain ⟨ka, na, sa, ba, fa, la, bl, bc, fl, fc, ll, lc, rfl⟩ := hV.shape
    have HV := Lib.hid (VIn.keep HB.out hV)
    obtain ⟨s0, s1, s2, s3, s4, s5⟩ := (hsix.keep HB.out).cells
    obtain ⟨nm, hnme⟩ : ∃ nm, nm = (f[k]'(by have := HN.out; omega)).1 := ⟨_, rfl⟩
    have HNM := Lib.hid hnme
    clear hnme
    have s6 : wr.cell? ⟨g, o + k * 7, none⟩ = some (.string nm) := by rw [HNM.out]; exact cell_keep HB.out hnm
    have HNS : Hid (nm.size ≤ 140737488355328) := by rw [HNM.out]; exact hns
    clear hall hsix hV hnm hns
    go_wp2_with fail
    have HVa := Lib.hid (VIn.keep ((Below.refl _ wr).alloc (Nat.le_refl _) (.cells #[.string nm, .int .i64 ka, .int .i64 na, .string sa, .slice ba bl bc, .slice fa fl fc, .slice la ll lc] 38)) HV.out)
    refine (IH.out nm _ _ _ _ _ _ _ _ HVa.out).mono ?_
    rintro e w2 ⟨e0, e1, e2, e3, e4, e5, rfl, hv2, hb2⟩
    obtain ⟨kd, nd, sd, bd, fd, ld, bm, bz, fm, fz, lm, lz, hsh⟩ := hv2.shape
    injection hsh with hsh
    injection hsh with hsh
    injection hsh with x0 hsh; injection hsh with x1 hsh; injection hsh with x2 hsh; injection hsh with x3 hsh; injection hsh with x4 hsh; injection hsh with x5 hsh
    subst x0 x1 x2 x3 x4 x5
    clear hsh
    have HB2 : Hid (Below wr.heap.size wr w2) := ((Below.refl _ wr).alloc (Nat.le_refl _) _).trans (hb2.mono (by simp))
    have HR2 := Lib.hid (HR.out.keep HB2.out)
    have HVS2 := Lib.hid (HVS.out.keep HB2.out)
    have HBw2 : Hid (Below w.heap.size w w2) := HB.out.trans (HB2.out.mono HB.out.size)
    have hGlt : w.heap.size < wr.heap.size := HR.out.lt
    have HV2 : Hid (VIn w2 (fun g => w.heap.size < g) h (f[k]'(by have := HN.out; omega)).2 (.agg #[.int .i64 kd, .int .i64 nd, .string sd, .slice bd bm bz, .slice fd fm fz, .slice ld lm lz])) := hv2.kept (Kept.of_below (Below.refl _ _)) (fun g hg => by simp at hg; omega)
    clear hv2 hb2
    obtain ⟨⟨z0, g0⟩, f0⟩ := HR2.out.at (j := k * 7) (by omega)
    obtain ⟨⟨z1, g1⟩, f1⟩ := HR2.out.at (j := k * 7 + 1) (by omega)
    obtain ⟨⟨z2, g2⟩, f2⟩ := HR2.out.at (j := k * 7 + 2) (by omega)
    obtain ⟨⟨z3, g3⟩, f3⟩ := HR2.out.at (j := k * 7 + 3) (by omega)
    obtain ⟨⟨z4, g4⟩, f4⟩ := HR2.out.at (j := k * 7 + 4) (by omega)
    obtain ⟨⟨z5, g5⟩, f5⟩ := HR2.out.at (j := k * 7 + 5) (by omega)
    obtain ⟨⟨z6, g6⟩, f6⟩ := HR2.out.at (j := k * 7 + 6) (by omega)
    have HN2 : Hid (Flds (puts w2 w.heap.size (k * 7) [.string nm, .int .i64 kd, .int .i64 nd, .string sd, .slice bd bm bz, .slice fd fm fz, .slice ld lm lz]) w.heap.size h f (k + 1)) := by
     have := HVS2.out.put HR2.out (by have := HN.out; omega) (by rw [HN.out]) HV2.out
     rw [← HNM.out] at this
     exact this
    have HR3 := Lib.hid (HR2.out.puts (k * 7) [.string nm, .int .i64 kd, .int .i64 nd, .string sd, .slice bd bm bz, .slice fd fm fz, .slice ld lm lz] (by simp; omega)).1
    have HB3 := Lib.hid (puts_below HBw2.out (G := w.heap.size) (Nat.le_refl _) [.string nm, .int .i64 kd, .int .i64 nd, .string sd, .slice bd bm bz, .slice fd fm fz, .slice ld lm lz] (k * 7))
    clear s0 s1 s2 s3 s4 s5 s6 HV HVa HVS HR HB
    go_wp2_with fail
    go_roundw
    case rel => exact ⟨k + 1, by go_num, by omega, HR3, HN2, HB3⟩
    case measure => simp [intOf]; omega
   ·have hkk : k = n := by omega
    subst hkk
    go_wp2_with fail
    go_ret
    refine ⟨some ⟨w.heap.size, 0, none⟩, k, rfl, ⟨Nat.le_refl _, by omega⟩, .inr ⟨w.heap.size, 0, rfl, Nat.le_refl _, fun i hi => ?_⟩, HB.out⟩
    obtain ⟨h0, v, h1, h2⟩ := HVS.out i hi (by rw [← HN.out]; exact hi)
    rw [Nat.zero_add]
    exact ⟨h0, HNL.out i hi, v, h1, h2.kept (Kept.of_below (Below.refl _ _)) (fun g hg => Nat.le_of_lt hg)⟩
theorem infoV6 : (Tryz.prog.info? 35).map (fun i => (i.zero, i.size, i.bytes)) = some (some (.agg #[.int .i64 0, .int .i64 0, .string ⟨#[]⟩, .slice none 0 0, .slice none 0 0, .slice none 0 0]), 6, 104) := by kernel_rfl
theorem run_makeVals (n : Nat) (hn : n ≤ 1353245080339) (u : World) : (Instr.makeSlice 22 (.int .i64 (n : Int)) (.int .i64 (n : Int))).run Tryz.prog u = .ok (.slice (some ⟨u.heap.size, 0, none⟩) n n) (u.alloc (.cells (madeCells #[.int .i64 0, .int .i64 0, .string ⟨#[]⟩, .slice none 0 0, .slice none 0 0, .slice none 0 0] (n * 6)) 35)) := by
 obtain ⟨i0, hi, hz0, hz1, hz2⟩ := info_parts infoV6
 have h := run_make (P := Tryz.prog) u 22 35 i0 (.agg #[.int .i64 0, .int .i64 0, .string ⟨#[]⟩, .slice none 0 0, .slice none 0 0, .slice none 0 0]) Tryz.underlying22 hi hz0 .i64 .i64 (n : Int) (n : Int) (by omega) (Int.le_refl _) (by rw [hz2]; omega) (by omega)
 rw [Int.toNat_natCast] at h
 simpa [hz1, Value.cells] using h
theorem eachV_any (Q : Nat → Prop) (h : Nat) (IH0 : CopyAt Q h) (a : Option Addr) (n c : Nat) (l : List Val) (w : World) (hn : l.length = n) (hnb : n ≤ 1353245080339) (hI : ItemsIn w Q (VIn w Q h) a l) :
  Calls Tryz.prog 61 #[.slice a n c, .func (.func 40) #[] #[]] w fun e w' => ∃ a' c', e = .returned (.slice a' n c') ∧ (n ≤ c' ∧ c' ≤ 9223372036854775807) ∧ ItemsIn w' (fun g => w.heap.size ≤ g) (VIn w' (fun g => w.heap.size ≤ g) h) a' l ∧ Below w.heap.size w w' := by
 have IH := Lib.hid IH0
 have HI := Lib.hid hI
 have HN := Lib.hid hn
 clear hI IH0 hn
 have hmk := run_makeVals n hnb
 have he := fun u : World => Lib.run_eql_slice_nil (P := Tryz.prog) u 22 35 a n c 0 0 Tryz.underlying22
 cases a with
 | none =>
  have hnil : l = [] := by
   rcases HI.out with h | ⟨g, o, e, _⟩
   ·exact h
   ·cases e
  have hn0 : n = 0 := by rw [← HN.out, hnil]; rfl
  subst hn0
  have HNIL := Lib.hid hnil
  clear hnil
  go_enter Tryz.func61, Tryz.ntmps61
  go_wp2_with fail
  go_ret
  exact ⟨none, 0, rfl, ⟨Nat.le_refl _, by omega⟩, .inl HNIL.out, Below.refl _ _⟩
 | some p =>
  go_enter Tryz.func61, Tryz.ntmps61
  go_wp2_with fail
  go_loopw [15] (fun i wr => ∃ k : Nat, i = .int .i64 k ∧ k ≤ n ∧ Hid (Row6 wr w.heap.size 35 (n * 6)) ∧ Hid (Vals wr w.heap.size h l k) ∧ Hid (Below w.heap.size w wr)) (fun i _ => n - (intOf i).toNat)
  case atStart => exact ⟨0, rfl, Nat.zero_le _, ⟨_, heap_alloc_new w _, size_madeCells _ _⟩, Vals.none _ _ _ _, (Below.refl _ w).alloc (Nat.le_refl _) _⟩
  case round =>
   obtain ⟨k, rfl, hk, HR, HVS, HB⟩ := hrel
   by_cases hlt : k < n
   ·obtain ⟨g, o, hla, _, hall⟩ := HI.out.resolve_left (fun e => by have := HN.out; rw [e] at this; simp at this; omega)
    obtain ⟨v', hsix, hV⟩ := hall k (by have := HN.out; omega)
    obtain rfl := Option.some.inj hla
    obtain ⟨ka, na, sa, ba, fa, la, bl, bc, fl, fc, ll, lc, rfl⟩ := hV.shape
    have HV := Lib.hid (VIn.keep HB.out hV)
    obtain ⟨s0, s1, s2, s3, s4, s5⟩ := (hsix.keep HB.out).cells
    clear hall hsix hV
    go_wp2_with fail
    have HVa := Lib.hid (VIn.keep ((Below.refl _ wr).alloc (Nat.le_refl _) (.cells #[.int .i64 ka, .int .i64 na, .string sa, .slice ba bl bc, .slice fa fl fc, .slice la ll lc] 35)) HV.out)
    refine (IH.out _ _ _ HVa.out).mono ?_
    rintro e w2 ⟨v2, rfl, hv2, hb2⟩
    obtain ⟨kd, nd, sd, bd, fd, ld, bm, bz, fm, fz, lm, lz, rfl⟩ := hv2.shape
    have HB2 : Hid (Below wr.heap.size wr w2) := ((Below.refl _ wr).alloc (Nat.le_refl _) _).trans (hb2.mono (by simp))
    have HR2 := Lib.hid (HR.out.keep HB2.out)
    have HVS2 := Lib.hid (HVS.out.keep HB2.out)
    have HBw2 : Hid (Below w.heap.size w w2) := HB.out.trans (HB2.out.mono HB.out.size)
    have hGlt : w.heap.size < wr.heap.size := HR.out.lt
    have HV2 : Hid (VIn w2 (fun g => w.heap.size < g) h (l[k]'(by have := HN.out; omega)) (.agg #[.int .i64 kd, .int .i64 nd, .string sd, .slice bd bm bz, .slice fd fm fz, .slice ld lm lz])) := hv2.kept (Kept.of_below (Below.refl _ _)) (fun g hg => by simp at hg; omega)
    clear hv2 hb2
    obtain ⟨⟨z0, g0⟩, f0⟩ := HR2.out.at (j := k * 6) (by omega)
    obtain ⟨⟨z1, g1⟩, f1⟩ := HR2.out.at (j := k * 6 + 1) (by omega)
    obtain ⟨⟨z2, g2⟩, f2⟩ := HR2.out.at (j := k * 6 + 2) (by omega)
    obtain ⟨⟨z3, g3⟩, f3⟩ := HR2.out.at (j := k * 6 + 3) (by omega)
    obtain ⟨⟨z4, g4⟩, f4⟩ := HR2.out.at (j := k * 6 + 4) (by omega)
    obtain ⟨⟨z5, g5⟩, f5⟩ := HR2.out.at (j := k * 6 + 5) (by omega)
    have HN2 : Hid (Vals (puts w2 w.heap.size (k * 6) [.int .i64 kd, .int .i64 nd, .string sd, .slice bd bm bz, .slice fd fm fz, .slice ld lm lz]) w.heap.size h l (k + 1)) := HVS2.out.put HR2.out (by have := HN.out; omega) (by rw [HN.out]) HV2.out
    have HR3 := Lib.hid (HR2.out.puts (k * 6) [.int .i64 kd, .int .i64 nd, .string sd, .slice bd bm bz, .slice fd fm fz, .slice ld lm lz] (by simp; omega)).1
    have HB3 := Lib.hid (puts_below HBw2.out (G := w.heap.size) (Nat.le_refl _) [.int .i64 kd, .int .i64 nd, .string sd, .slice bd bm bz, .slice fd fm fz, .slice ld lm lz] (k * 6))
    clear s0 s1 s2 s3 s4 s5 HV HVa HVS HR HB
    go_wp2_with fail
    go_roundw
    case rel => exact ⟨k + 1, by go_num, by omega, HR3, HN2, HB3⟩
    case measure => simp [intOf]; omega
   ·have hkk : k = n := by omega
    subst hkk
    go_wp2_with fail
    go_ret
    refine ⟨some ⟨w.heap.size, 0, none⟩, k, rfl, ⟨Nat.le_refl _, by omega⟩, .inr ⟨w.heap.size, 0, rfl, Nat.le_refl _, fun i hi => ?_⟩, HB.out⟩
    obtain ⟨v, h1, h2⟩ := HVS.out i hi (by rw [← HN.out]; exact hi)
    rw [Nat.zero_add]
    exact ⟨v, h1, h2.kept (Kept.of_below (Below.refl _ _)) (fun g hg => Nat.le_of_lt hg)⟩
end Go.Proofs.YtngllchoiffniaaGreatDoor
end
