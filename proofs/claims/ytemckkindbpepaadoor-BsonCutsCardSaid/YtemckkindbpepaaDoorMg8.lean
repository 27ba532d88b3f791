/- ValBuild, BsonHoldM, BsonLeafs. -/
import Derived.Deep.CutRange
import Derived.Deep.RegionHeld3
import Derived.Test.YtemckkindbpepaaDoorMg5
import Derived.Test.YtemckkindbpepaaDoorMg6
import Derived.Test.YtemckkindbpepaaDoorMg7
import Derived.Test.YtemckkindbpepaaDoorMg0
set_option maxRecDepth 100000
section
namespace Go.Proofs.YtemckkindbpepaaDoor
open Go.RowKit
open Seal
open Bson (Val)
theorem plain_lim (k n : Int) (f : List (ByteArray × Val)) (l : List Val) (hk : -9223372036854775808 ≤ k ∧ k ≤ 9223372036854775807) (hn : -9223372036854775808 ≤ n ∧ n ≤ 9223372036854775807) (hf : f.length ≤ 1172812402961) (hl : l.length ≤ 1353245080339) : Lim (.mk k n ⟨#[]⟩ [] f l) :=
  ⟨hk.1, hk.2, hn.1, hn.2, by show (0 : Nat) ≤ _; omega, by show (0 : Nat) ≤ _; omega, hf, hl, fun c hc => by cases hc⟩
theorem leaf_in (w : World) (Q : Nat → Prop) (k n : Int) (hk : -9223372036854775808 ≤ k ∧ k ≤ 9223372036854775807) (hn : -9223372036854775808 ≤ n ∧ n ≤ 9223372036854775807) (h : Nat) :
    VIn w Q (h + 1) (.mk k n ⟨#[]⟩ [] [] []) (.agg #[.int .i64 k, .int .i64 n, .string ⟨#[]⟩, .slice none 0 0, .slice none 0 0, .slice none 0 0]) :=
  ⟨none, none, none, 0, 0, 0, rfl, plain_lim k n [] [] hk hn (by simp) (by simp), ⟨Nat.le_refl _, by omega⟩, ⟨Nat.le_refl _, by omega⟩, ⟨Nat.le_refl _, by omega⟩, .inl rfl, .inl rfl, .inl rfl⟩
theorem doc_in {w : World} {Q : Nat → Prop} {h g : Nat} {nm : ByteArray} {x : Val} {c0 c1 c2 c3 c4 c5 : Value} {t : TypeId} (hr : w.heap[g]? = some (.cells #[.string nm, c0, c1, c2, c3, c4, c5] t (0, 0))) (hq : Q g) (hnm : nm.size ≤ 140737488355328) (hx : VIn w Q h x (.agg #[c0, c1, c2, c3, c4, c5])) :
    VIn w Q (h + 1) (.mk 6 0 ⟨#[]⟩ [] [(nm, x)] []) (.agg #[.int .i64 6, .int .i64 0, .string ⟨#[]⟩, .slice none 0 0, .slice (some ⟨g, 0, none⟩) 1 1, .slice none 0 0]) := by
  refine ⟨none, some ⟨g, 0, none⟩, none, 0, 1, 0, rfl, plain_lim 6 0 _ [] (by omega) (by omega) (by simp) (by simp), ⟨Nat.le_refl _, by omega⟩, ⟨Nat.le_refl _, by omega⟩, ⟨Nat.le_refl _, by omega⟩, .inl rfl, .inr ⟨g, 0, rfl, hq, fun i hi => ?_⟩, .inl rfl⟩
  obtain rfl : i = 0 := by simp [Val.f] at hi; omega
  refine ⟨(cell_of_row _ _ 0 _ _ _ hr).trans rfl, hnm, _, ⟨c0, c1, c2, c3, c4, c5, rfl, ?_, ?_, ?_, ?_, ?_, ?_⟩, hx⟩
  · exact (cell_of_row _ _ 1 _ _ _ hr).trans rfl
  · exact (cell_of_row _ _ 2 _ _ _ hr).trans rfl
  · exact (cell_of_row _ _ 3 _ _ _ hr).trans rfl
  · exact (cell_of_row _ _ 4 _ _ _ hr).trans rfl
  · exact (cell_of_row _ _ 5 _ _ _ hr).trans rfl
  · exact (cell_of_row _ _ 6 _ _ _ hr).trans rfl
theorem three_in {w : World} {Q : Nat → Prop} {h g : Nat} {x y z : Val} {a0 a1 a2 a3 a4 a5 b0 b1 b2 b3 b4 b5 c0 c1 c2 c3 c4 c5 : Value} {t : TypeId}
    (hr : w.heap[g]? = some (.cells #[a0, a1, a2, a3, a4, a5, b0, b1, b2, b3, b4, b5, c0, c1, c2, c3, c4, c5] t (0, 0))) (hq : Q g) (hx : VIn w Q h x (.agg #[a0, a1, a2, a3, a4, a5])) (hy : VIn w Q h y (.agg #[b0, b1, b2, b3, b4, b5])) (hz : VIn w Q h z (.agg #[c0, c1, c2, c3, c4, c5])) :
    VIn w Q (h + 1) (.mk 7 0 ⟨#[]⟩ [] [] [x, y, z]) (.agg #[.int .i64 7, .int .i64 0, .string ⟨#[]⟩, .slice none 0 0, .slice none 0 0, .slice (some ⟨g, 0, none⟩) 3 3]) := by
  have e : ∀ j c, (#[a0, a1, a2, a3, a4, a5, b0, b1, b2, b3, b4, b5, c0, c1, c2, c3, c4, c5] : Array Value)[j]? = some c → w.cell? ⟨g, j, none⟩ = some c := fun j c hc => (cell_of_row _ _ j _ _ _ hr).trans hc
  refine ⟨none, none, some ⟨g, 0, none⟩, 0, 0, 3, rfl, plain_lim 7 0 [] _ (by omega) (by omega) (by simp) (by simp), ⟨Nat.le_refl _, by omega⟩, ⟨Nat.le_refl _, by omega⟩, ⟨Nat.le_refl _, by omega⟩, .inl rfl, .inl rfl, .inr ⟨g, 0, rfl, hq, fun i hi => ?_⟩⟩
  match i, hi with
  | 0, _ => exact ⟨_, ⟨a0, a1, a2, a3, a4, a5, rfl, e _ _ rfl, e _ _ rfl, e _ _ rfl, e _ _ rfl, e _ _ rfl, e _ _ rfl⟩, hx⟩
  | 1, _ => exact ⟨_, ⟨b0, b1, b2, b3, b4, b5, rfl, e _ _ rfl, e _ _ rfl, e _ _ rfl, e _ _ rfl, e _ _ rfl, e _ _ rfl⟩, hy⟩
  | 2, _ => exact ⟨_, ⟨c0, c1, c2, c3, c4, c5, rfl, e _ _ rfl, e _ _ rfl, e _ _ rfl, e _ _ rfl, e _ _ rfl, e _ _ rfl⟩, hz⟩
end Go.Proofs.YtemckkindbpepaaDoor
end
section
namespace Go.Proofs.YtemckkindbpepaaDoor
open Go.RowKit
open Seal
open Bson (Val)
theorem same_keyS (s t : ByteArray) : (keyS t).sameKey (keyS s) = true ↔ s = t := by
  unfold keyS
  show (t.data.toList == s.data.toList) = true ↔ _
  rw [beq_iff_eq]
  constructor
  · intro h2
    exact ByteArray.ext (Array.ext' h2.symm)
  · rintro rfl; rfl
theorem keys_any (l : List ByteArray) (s : ByteArray) : (l.map keyS).any (fun y => y.sameKey (keyS s)) = true ↔ s ∈ l := by
  rw [List.any_eq_true]
  constructor
  · rintro ⟨x, h1, h2⟩
    obtain ⟨t, h3, rfl⟩ := List.mem_map.1 h1
    rw [(same_keyS s t).1 h2]; exact h3
  · intro h
    exact ⟨keyS s, List.mem_map.2 ⟨s, h, rfl⟩, (same_keyS s s).2 rfl⟩
theorem keys_lit (l : List ByteArray) : ∀ x ∈ l.map keyS, WideAt.IsKeyLit x := by
  intro x hx
  obtain ⟨s, _, rfl⟩ := List.mem_map.1 hx
  trivial
theorem keys_fold : ∀ (l p : List ByteArray), (p ++ l).Nodup → (l.map keyS).foldl Maps.addKey (p.map keyS) = (p ++ l).map keyS
  | [], p, _ => by simp
  | s :: r, p, h => by
    rw [List.map_cons, List.foldl_cons]
    have hs : s ∉ p := by
      rw [List.nodup_append] at h
      exact fun hm => h.2.2 s hm s List.mem_cons_self rfl
    have e : Maps.addKey (p.map keyS) (keyS s) = (p ++ [s]).map keyS := by
      unfold Maps.addKey
      rw [if_neg (fun hh => hs ((keys_any p s).1 hh))]
      simp
    rw [e, keys_fold r (p ++ [s]) (by simpa using h)]
    simp
/-- How many names the set has. -/
theorem setNms_size (f : List (ByteArray × Val)) (k : Nat) (hk : k ≤ f.length) (hd : (f.map (·.1)).Nodup) : Maps.size (setNms f k) = k := by
  have e : (f.take k).map (fun p => keyS p.1) = ((f.take k).map (·.1)).map keyS := by rw [List.map_map]; rfl
  unfold setNms
  rw [e, Maps.size_setOf _ _ (keys_lit _)]
  have h := keys_fold ((f.take k).map (·.1)) [] (by
    rw [List.nil_append, List.map_take]; exact hd.sublist (List.take_sublist _ _))
  rw [List.map_nil, List.nil_append] at h
  rw [h]
  simp
  omega
theorem setNms_next (f : List (ByteArray × Val)) (k : Nat) (hk : k < f.length) : setNms f (k + 1) = (setNms f k).put (keyS f[k].1) (.agg []) := by
  unfold setNms
  rw [List.take_succ_eq_append_getElem hk, List.map_append]
  exact Maps.setOf_snoc _ _ _
theorem setNms_has (f : List (ByteArray × Val)) (s : ByteArray) : Maps.has (setNms f f.length) (keyS s) = hasName f s := by
  have e : (f.take f.length).map (fun p => keyS p.1) = (f.map (·.1)).map keyS := by rw [List.take_length, List.map_map]; rfl
  unfold setNms
  rw [e, Maps.has_setOf _ _ _ (keys_lit _)]
  unfold hasName
  rw [Bool.eq_iff_iff, keys_any, List.any_eq_true, List.mem_map]
  constructor
  · rintro ⟨p, h1, h2⟩; exact ⟨p, h1, decide_eq_true h2⟩
  · rintro ⟨p, h1, h2⟩; exact ⟨p, h1, of_decide_eq_true h2⟩
theorem setNms_zero (f : List (ByteArray × Val)) : setNms f 0 = .map [] := rfl
section
variable {w w1 w' : World} {gn bm g o : Nat} {v : Value} {f : List (ByteArray × Val)}
theorem cell_block (h : w.cell? ⟨g, o, none⟩ = some v) : ∃ cs t fr, w.heap[g]? = some (.cells cs t fr) := by
  unfold World.cell? at h
  cases hb : w.heap[g]? with
  | none => rw [hb] at h; cases h
  | some b =>
    cases b with
    | cells cs t fr => exact ⟨cs, t, fr, rfl⟩
    | _ => rw [hb] at h; cases h
theorem HMove.cell (h : HMove gn w w') (hc : w.cell? ⟨g, o, none⟩ = some v) (hne : g ≠ gn) : w'.cell? ⟨g, o, none⟩ = some v := by
  obtain ⟨cs, t, fr, hb⟩ := cell_block hc
  exact (World.cell?_of_block (a := ⟨g, o, none⟩) (h.2.2.2.2.1 g cs t fr hne hb)).trans hc
theorem HMove.refl (gn : Nat) (w : World) : HMove gn w w := ⟨rfl, rfl, rfl, Nat.le_refl _, fun _ _ _ _ _ _ => rfl, fun _ _ => rfl⟩
theorem HMove.trans (h : HMove gn w w1) (h2 : HMove gn w1 w') : HMove gn w w' :=
  ⟨h2.1.trans h.1, h2.2.1.trans h.2.1, h2.2.2.1.trans h.2.2.1, Nat.le_trans h.2.2.2.1 h2.2.2.2.1, fun g cs t fr hne hb => (h2.2.2.2.2.1 g cs t fr hne ((h.2.2.2.2.1 g cs t fr hne hb).trans hb)).trans (h.2.2.2.2.1 g cs t fr hne hb), fun g hg => (h2.2.2.2.2.2 g hg).trans (h.2.2.2.2.2 g hg)⟩
/-- What a map's update writes is the map. -/
theorem HMove.of_map (hg : w.grownBy w' (some bm)) (hm : ∀ cs t fr, w.heap[bm]? ≠ some (.cells cs t fr)) (hlt : gn < bm) (hgl : gn < w.heap.size) : HMove gn w w' :=
  ⟨hg.os, hg.tape, hg.output, hg.size, fun g cs t fr _ hb => hg.block g (Array.getElem?_eq_some_iff.1 hb).1 (fun e => hm cs t fr (by rw [← Option.some.inj e]; exact hb)), fun g hgg => hg.block g (by omega) (fun e => by have := Option.some.inj e; omega)⟩
theorem HMove.set (u : Value) : HMove gn w (w.setCell ⟨gn, 0, none⟩ u) :=
  ⟨rfl, rfl, rfl, by simp, fun g cs t fr hne _ => Below.heap_setCell w ⟨gn, 0, none⟩ u g hne, fun g hgg => Below.heap_setCell w ⟨gn, 0, none⟩ u g (by show g ≠ gn; omega)⟩
theorem no_cells {k : Nat} {D : DataW Unit} (h : w.ownsMap Tryd.prog 9 (unitElem (H := Unit)) bm k D) : ∀ cs t fr, w.heap[bm]? ≠ some (.cells cs t fr) := by
  obtain ⟨es, clock, hb, _⟩ := h
  intro cs t fr h2
  rw [hb] at h2
  cases h2
end
theorem set_map {w : World} {gn : Nat} {u0 u : Value} {t : TypeId} (h : w.heap[gn]? = some (.cells #[u0] t (0, 0))) : (w.setCell ⟨gn, 0, none⟩ u).heap[gn]? = some (.cells #[u] t (0, 0)) := by
  rw [heap_setCell_same w gn 0 _ t u h]; rfl
theorem key_str (s : ByteArray) (hs : s.size ≤ maxLen) : keyOf Tryd.prog 9 (.string s) = some (keyS s) := by
  rw [keyOf_string Tryd.underlying9]
  unfold mapKey
  rw [Tryd.underlying9]
  exact if_pos hs
/-- The set stands, with the names of the first k fields, its box too. -/
def HoldAt (w : World) (gn bm k m : Nat) (f : List (ByteArray × Val)) : Prop := w.heap[gn]? = some (.cells #[.map (some bm)] 116 (0, 0)) ∧ gn < bm ∧ w.ownsMap Tryd.prog 9 (unitElem (H := Unit)) bm m (setNms f k)
theorem HoldAt.cell {w : World} {gn bm k m : Nat} {f : List (ByteArray × Val)} (h : HoldAt w gn bm k m f) : w.cell? ⟨gn, 0, none⟩ = some (.map (some bm)) := cell_of_row w gn 0 _ _ _ h.1
theorem HoldAt.gl {w : World} {gn bm k m : Nat} {f : List (ByteArray × Val)} (h : HoldAt w gn bm k m f) : gn < w.heap.size := (Array.getElem?_eq_some_iff.1 h.1).1
theorem HoldAt.keep {w w' : World} {gn bm k m : Nat} {f : List (ByteArray × Val)} (h : HoldAt w gn bm k m f) (hb : Below w.heap.size w w') : HoldAt w' gn bm k m f :=
  ⟨(hb.block gn h.gl).trans h.1, h.2.1, h.2.2.kept (row := none) ⟨hb.os, hb.tape, hb.output, hb.size, fun j hj _ => hb.block j hj⟩ nofun⟩
set_option maxRecDepth 100000 in
set_option maxHeartbeats 4000000 in
theorem hold_many (Q : Nat → Prop) (h : Nat) (w : World) (gn : Nat) (a : Option Addr) (n c : Nat) (f : List (ByteArray × Val)) (s : ByteArray) (hn : f.length = n) (hm : 16 < n) (hmx : n ≤ 140737488355328) (hnc : n ≤ c) (hc2 : c ≤ 9223372036854775807) (hss : s.size ≤ 140737488355328)
    (hF : FieldsIn w Q (VIn w Q h) a f) (hd : (f.map (·.1)).Nodup) (hN : Nms w gn f) :
    Calls Tryd.prog 71 #[.pointer (some ⟨gn, 0, none⟩), .slice a n c, .string s] w fun e w' => e = .returned (.bool (hasName f s)) ∧ HMove gn w w' ∧ Nms w' gn f := by
  have HN := Lib.hid hn
  have HD := Lib.hid hd
  have hgl := hN.lt
  obtain ⟨g, o, rfl, -, hall⟩ := hF.resolve_left (fun e => by rw [e] at hn; simp at hn; omega)
  have HALL : Hid (∀ (i : Nat) (hi : i < f.length), w.cell? ⟨g, o + i * 7, none⟩ = some (.string f[i].1) ∧ f[i].1.size ≤ 140737488355328 ∧ ∃ (q1 q2 : Int) (q3 : ByteArray) (a1 : Option Addr) (n1 c1 : Nat) (a2 : Option Addr) (n2 c2 : Nat) (a3 : Option Addr) (n3 c3 : Nat), SixAt w g (o + i * 7 + 1) (.agg #[.int .i64 q1, .int .i64 q2, .string q3, .slice a1 n1 c1, .slice a2 n2 c2, .slice a3 n3 c3])) := fun i hi => ⟨(hall i hi).1, (hall i hi).2.1, by
    obtain ⟨v, h1, h2⟩ := (hall i hi).2.2
    obtain ⟨q1, q2, q3, a1, n1, c1, a2, n2, c2, a3, n3, c3, rfl⟩ := VIn.form h2
    exact ⟨q1, q2, q3, a1, n1, c1, a2, n2, c2, a3, n3, c3, h1⟩⟩
  have HG : Hid (g ≠ gn) := by
    intro e
    have h1 := (hall 0 (by omega)).1
    rw [Nat.zero_mul, Nat.add_zero, e] at h1
    rcases hN with h2 | ⟨bm, k, h2, _⟩
    all_goals
      unfold World.cell? at h1
      rw [h2] at h1
      cases o with
      | zero => simp at h1
      | succ o => simp at h1
  have hem : ∀ (w : World) (r : Option Nat), (binOp .eql 114 (.map r) (.map none)).run Tryd.prog w = .ok (.bool r.isNone) w := fun w r => run_eql_map_nil w _ _ _ r Tryd.underlying114
  have hmm := @run_makeMap Tryd.prog
  obtain ⟨r, hr, hcase⟩ : ∃ r, w.heap[gn]? = some (.cells #[.map r] 116 (0, 0)) ∧ (r = none ∨ ∃ bm k, r = some bm ∧ k ≤ n ∧ HoldAt w gn bm k k f) := by
    rcases hN with h2 | ⟨bm, k, h2, h3, h4, h5⟩
    · exact ⟨none, h2, .inl rfl⟩
    · exact ⟨some bm, h2, .inr ⟨bm, k, rfl, by omega, h2, h3, h5⟩⟩
  have c0 := cell_of_row w gn 0 _ _ _ hr
  have HR := Lib.hid hr
  have HC := Lib.hid hcase
  have hmi : ¬ ((n : Int) ≤ 16) := by omega
  clear hall hF hd hn hr hcase hN
  go_enter Tryd.func71, Tryd.ntmps71
  go_upto_if 22 with fail
  go_cut [] from 22 to 26 (fun W => Hid (∃ bm k, k ≤ n ∧ HoldAt W gn bm k k f ∧ HMove gn w W))
  case first =>
    cases r with
    | none =>
      have HB : Hid (Below w.heap.size w (w.alloc (.map #[] 0))) := (Below.refl _ w).alloc (Nat.le_refl _) _
      have c1 := cell_keep HB.out c0
      have f1 : (w.alloc (.map #[] 0)).frozen? ⟨gn, 0, none⟩ = false := frozen_of_row _ gn 0 _ _ ((HB.out.block gn hgl).trans HR.out)
      have hss2 : (w.setCell ⟨gn, 0, none⟩ (.map (some w.heap.size))).heap.size = w.heap.size := by simp
      have HB2 : Hid (Below (w.setCell ⟨gn, 0, none⟩ (.map (some w.heap.size))).heap.size (w.setCell ⟨gn, 0, none⟩ (.map (some w.heap.size))) ((w.setCell ⟨gn, 0, none⟩ (.map (some w.heap.size))).alloc (.map #[] 0))) := (Below.refl _ _).alloc (Nat.le_refl _) _
      have HN2 : Hid (∃ bm k, k ≤ n ∧ HoldAt ((w.setCell ⟨gn, 0, none⟩ (.map (some w.heap.size))).alloc (.map #[] 0)) gn bm k k f ∧ HMove gn w ((w.setCell ⟨gn, 0, none⟩ (.map (some w.heap.size))).alloc (.map #[] 0))) := by
        refine ⟨w.heap.size, 0, Nat.zero_le _, ⟨?_, hgl, ?_⟩, (HMove.set _).trans (HMove.of_below HB2.out (by rw [hss2]; exact hgl))⟩
        · exact (HB2.out.block gn (by rw [hss2]; exact hgl)).trans (set_map HR.out)
        · have h1 := World.ownsMap_made (H := Unit) (w.setCell ⟨gn, 0, none⟩ (.map (some w.heap.size))) Tryd.prog 9 unitElem
          rw [hss2] at h1
          rw [setNms_zero]
          exact h1
      clear hss2 HB2
      go_wp2_with fail
      go_meet
      exact HN2
    | some bm =>
      have HN2 : Hid (∃ bm k, k ≤ n ∧ HoldAt w gn bm k k f ∧ HMove gn w w) := by
        rcases HC.out with e | ⟨bm2, k, e, hk, ha⟩
        · cases e
        · exact ⟨bm2, k, hk, ha, HMove.refl _ _⟩
      go_wp2_with fail
      go_meet
      exact HN2
  case rest =>
    obtain ⟨bm, k, hk, hO, hM⟩ := hcut.out
    have HO := Lib.hid hO
    have HM := Lib.hid hM
    have c1 := hO.cell
    have hsz := setNms_size f k (by have := HN.out; omega) HD.out
    have ZU : ∀ w, (zeroValue 128).run Tryd.prog w = .ok (.agg #[]) w := fun w => by kernel_rfl
    have KS : Maps.Keyed Tryd.prog 9 := Maps.string_keyed Tryd.underlying9
    have hlr := hO.2.2.len Tryd.underlying114 3
    rw [hsz] at hlr
    clear hcut hO hM c0 hmi HR HC
    by_cases hkn : k < n
    · have hck : ¬ c = k := by omega
      have hck2 : ¬ (c : Int) = (k : Int) := by omega
      have hck3 : ¬ c - k = 0 := by omega
      go_wp2_with fail
      go_loopw [35] (fun i wr => ∃ j : Nat, i = .int .i64 j ∧ k + j ≤ n ∧ Hid (HoldAt wr gn bm (k + j) (k + j) f) ∧ Hid (HMove gn w wr)) (fun i _ => n - k - (intOf i).toNat)
      case atStart => exact ⟨0, rfl, hk, HO, HM⟩
      case round =>
        obtain ⟨j, rfl, hj, HOJ, HMJ⟩ := hrel
        by_cases hlt : k + j < n
        · have hf : k + j < f.length := by rw [HN.out]; exact hlt
          obtain ⟨hnm, hnl, x1, x2, x3, a1, n1, c1x, a2, n2, c2, a3, n3, c3, hsix⟩ := HALL.out (k + j) hf
          obtain ⟨d0, d1, d2, d3, d4, d5, he6, s0, s1, s2, s3, s4, s5⟩ := hsix
          obtain ⟨rfl, rfl, rfl, rfl, rfl, rfl⟩ : d0 = .int .i64 x1 ∧ d1 = .int .i64 x2 ∧ d2 = .string x3 ∧ d3 = .slice a1 n1 c1x ∧ d4 = .slice a2 n2 c2 ∧ d5 = .slice a3 n3 c3 := by
            simp only [Value.agg.injEq, Array.mk.injEq, List.cons.injEq, and_true] at he6
            obtain ⟨e0, e1, e2, e3, e4, e5⟩ := he6
            exact ⟨e0.symm, e1.symm, e2.symm, e3.symm, e4.symm, e5.symm⟩
          clear he6
          have q0 := HMJ.out.cell hnm HG.out
          have q1 := HMJ.out.cell s0 HG.out
          have q2 := HMJ.out.cell s1 HG.out
          have q3 := HMJ.out.cell s2 HG.out
          have q4 := HMJ.out.cell s3 HG.out
          have q5 := HMJ.out.cell s4 HG.out
          have q6 := HMJ.out.cell s5 HG.out
          have eo : o + (k + j) * 7 = o + k * 7 + j * 7 := by omega
          rw [eo] at q0 q1 q2 q3 q4 q5 q6
          have HNX := Lib.hid (setNms_next f (k + j) hf)
          have hks := key_str f[k + j].1 (by unfold maxLen; omega)
          generalize f[k + j].1 = nm at *
          have hlj : j < n - k := by omega
          have hmx2 : k + j < maxLen := by unfold maxLen; omega
          clear s0 s1 s2 s3 s4 s5 hnm
          go_upto_region 8 with fail
          have HBX : Hid (Below wr.heap.size wr (wr.alloc (.cells #[.string nm, .int .i64 x1, .int .i64 x2, .string x3, .slice a1 n1 c1x, .slice a2 n2 c2, .slice a3 n3 c3] 43))) := (Below.refl _ wr).alloc (Nat.le_refl _) _
          have HOB := Lib.hid (HOJ.out.keep HBX.out)
          have cm := HOB.out.cell
          have cb : (wr.alloc (.cells #[.string nm, .int .i64 x1, .int .i64 x2, .string x3, .slice a1 n1 c1x, .slice a2 n2 c2, .slice a3 n3 c3] 43)).cell? ⟨wr.heap.size, 0, none⟩ = some (.string nm) := (cell_of_row _ _ 0 _ _ _ (heap_alloc_new wr _)).trans rfl
          have HMB := Lib.hid (HMJ.out.trans (HMove.of_below HBX.out HOJ.out.gl))
          generalize (wr.alloc (.cells #[.string nm, .int .i64 x1, .int .i64 x2, .string x3, .slice a1 n1 c1x, .slice a2 n2 c2, .slice a3 n3 c3] 43)) = W2 at *
          refine wp_region_still_tail 7 (by kernel_rfl) (by kernel_rfl) ?_
          simp only [List.take_succ_cons, List.take_zero, List.drop_succ_cons, List.drop_zero]
          iterate 7 still_step
          refine wpStill_nil ?_
          change wpList _ _ _ _ _ W2.drew
          have HOD : Hid (HoldAt W2.drew gn bm (k + j) (k + j) f) := HOB.out
          have HMD : Hid (HMove gn w W2.drew) := HMB.out
          refine wpList_mapUpdate_own _ rfl _ _ _ 114 rfl 9 128 KS Tryd.underlying114 (unitElem (H := Unit)) bm (k + j) _ rfl HOD.out.2.2 hmx2 _ _ _ rfl rfl hks _ [] unitElem_mk ?_
          intro w1 hown1 hgrow1
          have HO2 : Hid (HoldAt w1 gn bm (k + (j + 1)) (k + (j + 1)) f) := by
            refine ⟨(hgrow1.block gn HOD.out.gl (fun e => by have := Option.some.inj e; have := HOD.out.2.1; omega)).trans HOD.out.1, HOD.out.2.1, ?_⟩
            rw [show k + (j + 1) = k + j + 1 by omega, HNX.out]
            exact hown1
          have HM2 : Hid (HMove gn w w1) := HMD.out.trans (HMove.of_map hgrow1 (no_cells HOD.out.2.2) HOD.out.2.1 HOD.out.gl)
          clear hown1 hgrow1 HNX
          go_wp2_with fail
          go_roundw
          case rel => exact ⟨j + 1, by go_num, by omega, HO2, HM2⟩
          case measure => simp [intOf]; omega
        · obtain rfl : j = n - k := by omega
          have HOE : Hid (HoldAt wr gn bm n n f) := by have h1 := HOJ.out; rw [show k + (n - k) = n by omega] at h1; exact h1
          have hme := HMJ.out
          have hce := HOE.out.cell
          have hks := key_str s (by unfold maxLen; omega)
          have hhas : Maps.has (setNms f n) (keyS s) = hasName f s := by have h1 := setNms_has f s; rw [HN.out] at h1; exact h1
          obtain ⟨hb, hhb⟩ : ∃ b, b = hasName f s := ⟨_, rfl⟩
          rw [← hhb] at hhas
          have HHB := Lib.hid hhb
          clear hhb
          have HME := Lib.hid hme
          clear hme
          go_wp2_with (at_lookup; refine wpList_lookup_own_unit _ rfl _ _ 114 rfl 9 128 KS Tryd.underlying114 (ZU _) bm n _ rfl HOE.out.2.2 _ _ rfl hks ?_; rw [hhas])
          go_ret
          have hBE := (Below.refl wr.heap.size wr).alloc (Nat.le_refl _) (.cells #[] 128)
          exact ⟨ret_eq (by rw [← HHB.out]; rfl), HME.out.trans (HMove.of_below hBE HOE.out.gl), .inr ⟨bm, n, (HOE.out.keep hBE).1, HOE.out.2.1, by rw [HN.out]; exact Nat.le_refl _, (HOE.out.keep hBE).2.2⟩⟩
    
    · obtain rfl : k = n := by omega
      go_wp2_with fail
      all_goals
        go_loopw [35] (fun i wr => i = .int .i64 0 ∧ Hid (HoldAt wr gn bm k k f) ∧ Hid (HMove gn w wr)) (fun _ _ => 0)
        case atStart => exact ⟨rfl, HO, HM⟩
        case round =>
          obtain ⟨rfl, HOE, HMJ⟩ := hrel
          have hme := HMJ.out
          have hce := HOE.out.cell
          have hks := key_str s (by unfold maxLen; omega)
          have hhas : Maps.has (setNms f k) (keyS s) = hasName f s := by have h1 := setNms_has f s; rw [HN.out] at h1; exact h1
          obtain ⟨hb, hhb⟩ : ∃ b, b = hasName f s := ⟨_, rfl⟩
          rw [← hhb] at hhas
          have HHB := Lib.hid hhb
          clear hhb
          have HME := Lib.hid hme
          clear hme
          go_wp2_with (at_lookup; refine wpList_lookup_own_unit _ rfl _ _ 114 rfl 9 128 KS Tryd.underlying114 (ZU _) bm k _ rfl HOE.out.2.2 _ _ rfl hks ?_; rw [hhas])
          go_ret
          have hBE := (Below.refl wr.heap.size wr).alloc (Nat.le_refl _) (.cells #[] 128)
          exact ⟨ret_eq (by rw [← HHB.out]; rfl), HME.out.trans (HMove.of_below hBE HOE.out.gl), .inr ⟨bm, k, (HOE.out.keep hBE).1, HOE.out.2.1, by rw [HN.out]; exact Nat.le_refl _, (HOE.out.keep hBE).2.2⟩⟩
    
end Go.Proofs.YtemckkindbpepaaDoor
end
section
namespace Go.Proofs.YtemckkindbpepaaDoor
open Go.RowKit
open Seal
open Bson (Val Res)
/-- The value of nothing. -/
def zeroV : Value := .agg #[.int .i64 0, .int .i64 0, .string ⟨#[]⟩, .slice none 0 0, .slice none 0 0, .slice none 0 0]
def ErrPost (z : Value) (w : World) (gr n : Nat) (e : Ending) (w' : World) : Prop := e = .returned (.tuple #[z, .int .i64 (n : Int)]) ∧ w.grownBy w' (some gr)
def OkPost {α : Type} (V : World → α → Value → Prop) (w : World) (gr : Nat) (ba : Option Addr) (bc : Nat) (b : List Nat) (x : α) (r : List Nat) (e : Ending) (w' : World) : Prop :=
  ∃ v k, e = .returned (.tuple #[v, .int .i64 0]) ∧ V w' x v ∧ r = b.drop k ∧ Rdr w' gr ba bc b k ∧ w.grownBy w' (some gr)
/-- A method of the reader answers what res says, in whatever world. -/
structure Reads_ {α : Type} (z : Value) (V : World → α → Value → Prop) (f : Nat) (args : Array Value) (w : World) (gr : Nat) (ba : Option Addr) (bc : Nat) (b : List Nat) (res : Res α) : Prop where
  err : ∀ n, res = .err n → Calls Tryd.prog f args w (ErrPost z w gr n)
  ok : ∀ x r, res = .ok x r → Calls Tryd.prog f args w (OkPost V w gr ba bc b x r)
theorem drop_short {b : List Nat} {k n : Nat} (hk : k ≤ b.length) (h : (b.drop k).length < n) : b.length < k + n := by simp at h; omega
/-- take, as Bson.take has it. -/
theorem btake_no {b : List Nat} {k n e : Nat} (hk : k ≤ b.length) (h : Bson.take n (b.drop k) = .err e) : e = 2 ∧ b.length < k + n := by
  unfold Bson.take at h
  split at h
  · rename_i hl
    injection h with h
    exact ⟨h.symm, by simp at hl; omega⟩
  · cases h
theorem btake_yes {b x r : List Nat} {k n : Nat} (hk : k ≤ b.length) (h : Bson.take n (b.drop k) = .ok x r) : k + n ≤ b.length ∧ x = (b.drop k).take n ∧ r = b.drop (k + n) ∧ x.length = n := by
  unfold Bson.take at h
  split at h
  · cases h
  · rename_i hl
    injection h with h1 h2
    subst h1; subst h2
    refine ⟨by simp at hl; omega, rfl, by simp, by simp at hl ⊢; omega⟩
def IntV (_ : World) (x : Int) (v : Value) : Prop := v = .int .i64 x
/-- A length that is not below least. -/
def lengthOf (least : Int) (l : List Nat) : Res Int := (Bson.take 4 l).bind fun h r => if Bson.signed h < least then .err 4 else .ok (Bson.signed h) r
theorem oct_take {b : List Nat} (h : Oct b) (k n : Nat) : Oct ((b.drop k).take n) := fun c hc => h c (List.mem_of_mem_drop (List.mem_of_mem_take hc))
set_option maxRecDepth 100000 in
set_option maxHeartbeats 1000000 in
theorem length_any (w : World) (gr : Nat) (ba : Option Addr) (bc : Nat) (b : List Nat) (k : Nat) (least : Int) (hR : Rdr w gr ba bc b k) :
    Reads_ (.int .i64 0) IntV 62 #[.pointer (some ⟨gr, 0, none⟩), .int .i64 least] w gr ba bc b (lengthOf least (b.drop k)) := by
  have hle := hR.le
  have HR := Lib.hid hR
  by_cases h : b.length < k + 4
  · have hT := Lib.hid (take_no w gr ba bc b k 4 hR (by decide) h)
    have e : lengthOf least (b.drop k) = .err 2 := by unfold lengthOf Bson.take; rw [if_pos (by simp; omega)]; rfl
    rw [e]
    clear h hR
    refine ⟨fun n hn => ?_, fun x r hx => by cases hx⟩
    injection hn with hn; subst hn
    go_enter Tryd.func62, Tryd.ntmps62
    go_wp2_with fail
    refine hT.out.mono ?_
    rintro e w' ⟨rfl, q, rfl⟩
    go_wp2_with fail
    go_ret2
    exact ⟨rfl, grown_drewN w q gr⟩
  · have hT := Lib.hid (take_yes w gr ba bc b k 4 hR (by omega))
    have hx4 : ((b.drop k).take 4).length = 4 := by simp; omega
    have ho4 := oct_take hR.oct k 4
    have hsb := (Bson.signed_bd _ ho4).resolve_right (fun e => by rw [e] at hx4; cases hx4)
    rw [hx4] at hsb
    have hsb' : -2147483648 ≤ Bson.signed ((b.drop k).take 4) ∧ Bson.signed ((b.drop k).take 4) < 2147483648 := by simpa using hsb
    clear hsb
    have e : lengthOf least (b.drop k) = if Bson.signed ((b.drop k).take 4) < least then .err 4 else .ok (Bson.signed ((b.drop k).take 4)) (b.drop (k + 4)) := by
      unfold lengthOf Bson.take; rw [if_neg (by simp; omega)]
      show (if _ then _ else _) = _
      rw [List.drop_drop]
    rw [e]
    have hS := Lib.hid (fun w a c hs => signed_any w a 4 c ((b.drop k).take 4) hx4 (.inr (.inl rfl)) ho4 hs)
    generalize Bson.signed ((b.drop k).take 4) = sg at *
    have hk4 : k + 4 ≤ b.length := by omega
    clear h hR hx4 ho4 e
    by_cases hlo : sg < least
    · rw [if_pos hlo]
      refine ⟨fun n hn => ?_, fun x r hx => by cases hx⟩
      injection hn with hn; subst hn
      go_enter Tryd.func62, Tryd.ntmps62
      go_wp2_with fail
      refine hT.out.mono ?_
      rintro e w' ⟨a, c, rfl, hc0, hc1, hs, hR', hg⟩
      have HG := Lib.hid hg
      have HSS := Lib.hid (hS.out w' a c hs)
      clear hs hR' hg
      go_wp2_with fail
      refine HSS.out.mono ?_
      rintro e w'' ⟨rfl, rfl⟩
      go_wp2_with fail
      go_ret2
      exact ⟨rfl, HG.out⟩
    · rw [if_neg hlo]
      refine ⟨fun n hn => (by cases hn), fun x r hx => ?_⟩
      injection hx with h1 h2; subst h1; subst h2
      go_enter Tryd.func62, Tryd.ntmps62
      go_wp2_with fail
      refine hT.out.mono ?_
      rintro e w' ⟨a, c, rfl, hc0, hc1, hs, hR', hg⟩
      have HG := Lib.hid hg
      have HR' := Lib.hid hR'
      have HSS := Lib.hid (hS.out w' a c hs)
      clear hs hR' hg
      go_wp2_with fail
      refine HSS.out.mono ?_
      rintro e w'' ⟨rfl, rfl⟩
      go_wp2_with fail
      go_ret2
      exact ⟨_, k + 4, rfl, rfl, rfl, HR'.out, HG.out⟩
end Go.Proofs.YtemckkindbpepaaDoor
end
