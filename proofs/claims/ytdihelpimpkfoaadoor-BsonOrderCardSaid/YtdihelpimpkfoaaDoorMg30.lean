/- BsonSize, BsonOrdMath, BsonPutV. -/
import Derived.Test.YtdihelpimpkfoaaDoorMg29
import Derived.Test.YtdihelpimpkfoaaDoorMg22
import Derived.Test.YtdihelpimpkfoaaDoorMg9
import Derived.Test.YtdihelpimpkfoaaDoorMg25
set_option maxRecDepth 100000
section
namespace Go.Proofs.YtdihelpimpkfoaaDoor
open Go.RowKit
open Seal
open Bson (Val)
theorem hold_any (Q : Nat → Prop) (h : Nat) : HoldAns Q h := fun w gn a n c f s hn hm hnc hc2 hs hF hd hN => by
  by_cases h16 : n ≤ 16
  · exact hold_few Q h w gn a n c f s hn h16 hF hN
  · exact hold_many Q h w gn a n c f s hn (by omega) hm hnc hc2 hs hF hd hN
theorem VIn.parts {w : World} {Q : Nat → Prop} {h : Nat} {x : Val} {ba fa la : Option Addr} {bc fc lc : Nat} (hv : VIn w Q (h + 1) x (agg x ba fa la bc fc lc)) :
    Lim x ∧ (x.b.length ≤ bc ∧ bc ≤ 9223372036854775807) ∧ (x.f.length ≤ fc ∧ fc ≤ 9223372036854775807) ∧ (x.l.length ≤ lc ∧ lc ≤ 9223372036854775807) ∧ BytesIn w Q ba x.b ∧ FieldsIn w Q (VIn w Q h) fa x.f ∧ ItemsIn w Q (VIn w Q h) la x.l := by
  obtain ⟨ba', fa', la', bc', fc', lc', e, h1⟩ := hv
  unfold agg at e
  injection e with e
  simp only [Array.mk.injEq, List.cons.injEq, and_true, Value.slice.injEq] at e
  obtain ⟨-, -, -, ⟨rfl, -, rfl⟩, ⟨rfl, -, rfl⟩, ⟨rfl, -, rfl⟩⟩ := e
  exact h1
/-- A value, at whatever depth: its bytes count, within the documents that are left. -/
theorem mvalue_all : ∀ (d : Nat) (gm : Nat) (depth : Int), depth + d = 33 → 1 ≤ depth → ∀ (Q : Nat → Prop) (h : Nat) (x : Val) (v : Value) (w : World) (left : Int), VIn w Q h x v → Mtr w gm left → 0 ≤ left → left ≤ 65536 → Tabs w →
    Calls Tryd.prog 16 #[.pointer (some ⟨gm, 0, none⟩), v, .int .i64 depth] w (MPost gm left (Bson.enc d x) w)
  | d, gm, depth, hd, h1, Q, 0, x, v, w, left, hv, hM, hl0, hl, hT => hv.elim
  | 0, gm, depth, hd, h1, Q, h + 1, x, v, w, left, hv, hM, hl0, hl, hT => by
    obtain ⟨ba, fa, la, bc, fc, lc, rfl, -⟩ := id hv
    by_cases h6 : x.kind = 6
    · have h2 := mdoc_any Q (h + 1) x w gm left depth ba fa la bc fc lc none (by omega) (by omega) h6 (fun _ _ _ _ _ _ _ hdd => absurd hdd (by omega)) hv hM hl0 hl hT
      rw [if_neg (by omega)] at h2
      rw [enc_none x (.inl h6)]; exact h2
    · by_cases h7 : x.kind = 7
      · have h2 := mlist_any Q (h + 1) x w gm left depth ba fa la bc fc lc none (by omega) (by omega) h7 (fun _ _ _ _ _ _ _ hdd => absurd hdd (by omega)) hv hM hl0 hl hT
        rw [if_neg (by omega)] at h2
        rw [enc_none x (.inr h7)]; exact h2
      · rw [Bson.enc_other 0 x h6 h7]
        exact mscalar_any Q (h + 1) x _ w gm left depth hv hM hl0 hl hT.t8 h6 h7
  | d + 1, gm, depth, hd, h1, Q, h + 1, x, v, w, left, hv, hM, hl0, hl, hT => by
    obtain ⟨ba, fa, la, bc, fc, lc, rfl, -⟩ := id hv
    have IH := fun x v w left a b c e f => mvalue_all d gm (depth + 1) (by omega) (by omega) Q h x v w left a b c e f
    by_cases h6 : x.kind = 6
    · have h2 := mdoc_any Q (h + 1) x w gm left depth ba fa la bc fc lc (rowB d x.f) (by omega) (by omega) h6 (fun w2 left2 hv2 hM2 a b hT2 _ => by
        obtain ⟨hL, -, ⟨k1, k2⟩, -, -, hF, -⟩ := VIn.parts hv2
        exact mfields_any Q h d gm depth (by omega) (by omega) (hold_any Q h) IH w2 left2 fa x.f.length fc x.f rfl (by have := hL.f; omega) k1 k2 hF hM2 a b hT2) hv hM hl0 hl hT
      rw [if_pos (by omega), ← enc_doc_row d x h6] at h2
      exact h2
    · by_cases h7 : x.kind = 7
      · have h2 := mlist_any Q (h + 1) x w gm left depth ba fa la bc fc lc (Bson.row (Bson.enc d) (Bson.named x.l)) (by omega) (by omega) h7 (fun w2 left2 hv2 hM2 a b hT2 _ => by
          obtain ⟨hL, -, -, ⟨k1, k2⟩, -, -, hI⟩ := VIn.parts hv2
          exact mitems_any Q h d gm depth (by omega) (by omega) IH w2 left2 la x.l.length lc x.l rfl (by have := hL.l; omega) hI hM2 a b hT2) hv hM hl0 hl hT
        rw [if_pos (by omega), ← enc_list_row d x h7] at h2
        exact h2
      · rw [Bson.enc_other (d + 1) x h6 h7]
        exact mscalar_any Q (h + 1) x _ w gm left depth hv hM hl0 hl hT.t8 h6 h7
theorem Tabs.below {w w' : World} (h : Tabs w) (hb : Below w.heap.size w w') : Tabs w' := by
  refine ⟨h.t8.keep hb, ?_⟩
  have h1 := h.p10
  unfold Lib.TabIs World.var? at *
  cases hgn : Tryd.prog.globalNamed "internal/strconv.uint64pow10" with
  | none => rw [hgn] at h1; cases h1
  | some g =>
    rw [hgn] at h1
    simp only [Option.bind_some] at h1 ⊢
    have hlt : g < w.heap.size := by
      refine Nat.lt_of_not_le fun hge => ?_
      rw [Array.getElem?_eq_none hge] at h1; cases h1
    rw [hb.block g hlt]
    exact h1
/-- What an own block's writing leaves below. -/
theorem below_grown {w w1 w' : World} {gm : Nat} (hg : w1.grownBy w' (some gm)) (hs : w.heap.size ≤ w1.heap.size) (h : w.heap.size ≤ gm) : Below w.heap.size w1 w' :=
  ⟨hg.os, hg.tape, hg.output, hg.size, fun j hj => hg.block j (by omega) (fun e => by have := Option.some.inj e; omega)⟩
/-- The bytes of a document that may be encoded. -/
def docB (x : Val) : Option (List Nat) := if x.kind = 6 then (match Bson.enc 32 x with | some l => if l.length ≤ 65536 then some l else none | none => none) else none
def sizeB (x : Val) : Nat := match docB x with | some l => l.length | none => 0
set_option maxRecDepth 100000 in
set_option maxHeartbeats 1000000 in
theorem size_any (Q : Nat → Prop) (h : Nat) (x : Val) (v : Value) (w : World) (hv : VIn w Q h x v) (hT : Tabs w) :
    Calls Tryd.prog 10 #[v] w fun e w' => e = .returned (.int .i64 (sizeB x)) ∧ Below w.heap.size w w' := by
  cases h with
  | zero => exact hv.elim
  | succ h =>
  obtain ⟨ba, fa, la, bc, fc, lc, rfl, -⟩ := id hv
  have HV := Lib.hid hv
  have HT := Lib.hid hT
  clear hv hT
  unfold agg
  obtain ⟨kd, hkd⟩ : ∃ k, k = x.kind := ⟨_, rfl⟩
  have HK := Lib.hid hkd
  rw [← hkd]
  clear hkd
  by_cases h6 : kd = 6
  · subst h6
    go_enter Tryd.func10, Tryd.ntmps10
    have HB2 : Hid (Below w.heap.size w ((w.alloc (.cells #[.int .i64 6, .int .i64 x.n, .string x.s, .slice ba x.b.length bc, .slice fa x.f.length fc, .slice la x.l.length lc] 28)).alloc (.cells #[.int .i64 65536] 52))) := ((Below.refl _ w).alloc (Nat.le_refl _) _).alloc (by simp) _
    have HM2 : Hid (Mtr ((w.alloc (.cells #[.int .i64 6, .int .i64 x.n, .string x.s, .slice ba x.b.length bc, .slice fa x.f.length fc, .slice la x.l.length lc] 28)).alloc (.cells #[.int .i64 65536] 52)) (w.heap.size + 1) 65536) := by
      have h1 := heap_alloc_new (w.alloc (.cells #[.int .i64 6, .int .i64 x.n, .string x.s, .slice ba x.b.length bc, .slice fa x.f.length fc, .slice la x.l.length lc] 28)) (.cells #[.int .i64 65536] 52 (0, 0))
      rw [show (w.alloc (.cells #[.int .i64 6, .int .i64 x.n, .string x.s, .slice ba x.b.length bc, .slice fa x.f.length fc, .slice la x.l.length lc] 28)).heap.size = w.heap.size + 1 by simp] at h1
      exact h1
    have CV := Lib.hid (mvalue_all 32 (w.heap.size + 1) 1 rfl (by omega) Q (h + 1) x _ ((w.alloc (.cells #[.int .i64 6, .int .i64 x.n, .string x.s, .slice ba x.b.length bc, .slice fa x.f.length fc, .slice la x.l.length lc] 28)).alloc (.cells #[.int .i64 65536] 52)) 65536 (VIn.keep HB2.out HV.out) HM2.out (by omega) (by omega) (HT.out.below HB2.out))
    unfold agg at CV
    rw [← HK.out] at CV
    go_wp2_with fail
    refine CV.out.mono ?_
    rintro e w' ⟨b, rfl, hg, hy, hn⟩
    have HB3 : Hid (Below w.heap.size w w') := HB2.out.trans (below_grown hg HB2.out.size (by omega))
    cases b with
    | false =>
      have HS : Hid (sizeB x = 0) := by
        unfold sizeB docB
        rw [if_pos HK.out.symm]
        cases he : Bson.enc 32 x with
        | none => rfl
        | some l =>
          by_cases hl : l.length ≤ 65536
          · exact absurd ⟨l, he, by omega⟩ (hn rfl)
          · show (match (if l.length ≤ 65536 then some l else none) with | some l => l.length | none => 0) = 0
            rw [if_neg hl]
      clear hg hy hn
      go_wp2_with fail
      go_ret
      exact ⟨ret_eq (by rw [HS.out]; rfl), HB3.out⟩
    | true =>
      obtain ⟨l, he, hl, hM3⟩ := hy rfl
      have HS : Hid (sizeB x = l.length) := by
        unfold sizeB docB
        rw [if_pos HK.out.symm, he]
        show (match (if l.length ≤ 65536 then some l else none) with | some l => l.length | none => 0) = _
        rw [if_pos (by omega)]
      have c0 := hM3.c0
      have hw : IntKind.i64.wrap (65536 - (65536 - (l.length : Int))) = (l.length : Int) := by rw [show (65536 : Int) - (65536 - (l.length : Int)) = l.length by omega]; exact IntWalk.i64_in _ (by omega)
      clear hg hy hn he
      go_wp2_with fail
      go_ret
      exact ⟨ret_eq (by rw [HS.out]; simp), HB3.out⟩
  · have h6b : (kd != 6) = true := by rw [bne_iff_ne]; exact h6
    go_enter Tryd.func10, Tryd.ntmps10
    go_wp2_with fail
    go_ret
    have hs : sizeB x = 0 := by
      unfold sizeB docB
      rw [if_neg (by rw [← HK.out]; exact h6)]
    exact ⟨ret_eq (by rw [hs]; rfl), ((Below.refl _ w).alloc (Nat.le_refl _) _).alloc (by simp) _⟩
end Go.Proofs.YtdihelpimpkfoaaDoor
end
section
namespace Go.Proofs.YtdihelpimpkfoaaDoor
open Bson (Val enc row scalar wrap code nameMay leI)
/-- A number of 32 bits, as a value. -/
def numV (n : Int) : Val := .mk 3 n ⟨#[]⟩ [] [] []
def rowV (ps : List (ByteArray × Int)) : List (ByteArray × Val) := ps.map fun p => (p.1, numV p.2)
def docV (ps : List (ByteArray × Int)) : Val := .mk 6 0 ⟨#[]⟩ [] (rowV ps) []
def letS (c : Nat) : ByteArray := ⟨#[UInt8.ofNat c]⟩
def putP (s : ByteArray) (n : Int) : List (ByteArray × Int) → List (ByteArray × Int)
  | [] => [(s, n)]
  | p :: r => if p.1 = s then (p.1, n) :: r else p :: putP s n r
def cutP (s : ByteArray) (ps : List (ByteArray × Int)) : List (ByteArray × Int) := ps.filter fun p => !decide (p.1 = s)
def nmsP (ps : List (ByteArray × Int)) : List ByteArray := ps.map (·.1)
theorem rowV_length (ps : List (ByteArray × Int)) : (rowV ps).length = ps.length := List.length_map ..
theorem nmsP_length (ps : List (ByteArray × Int)) : (nmsP ps).length = ps.length := List.length_map ..
theorem rowV_cut (s : ByteArray) (ps : List (ByteArray × Int)) : (rowV ps).filter (fun p => !decide (p.1 = s)) = rowV (cutP s ps) := by
  unfold rowV cutP
  rw [List.filter_map]; rfl
theorem nmsP_cut (s : ByteArray) (ps : List (ByteArray × Int)) : (nmsP ps).filter (fun t => !decide (t = s)) = nmsP (cutP s ps) := by
  unfold nmsP cutP
  rw [List.filter_map]; rfl
instance memL (s : ByteArray) (l : List ByteArray) : Decidable (s ∈ l) := decidable_of_iff (l.any (fun t => decide (t = s)) = true) (by simp)
theorem nmsP_put (s : ByteArray) (n : Int) : ∀ ps : List (ByteArray × Int), nmsP (putP s n ps) = if s ∈ nmsP ps then nmsP ps else nmsP ps ++ [s]
  | [] => rfl
  | p :: r => by
    rw [putP]
    by_cases e : p.1 = s
    · rw [if_pos e, if_pos (by unfold nmsP; rw [List.map_cons, e]; exact List.mem_cons_self)]; rfl
    · rw [if_neg e]
      have ih := nmsP_put s n r
      have h2 : nmsP (p :: putP s n r) = p.1 :: nmsP (putP s n r) := rfl
      have h3 : nmsP (p :: r) = p.1 :: nmsP r := rfl
      rw [h2, ih, h3]
      by_cases hm : s ∈ nmsP r
      · rw [if_pos hm, if_pos (List.mem_cons_of_mem _ hm)]
      · rw [if_neg hm, if_neg (by rw [List.mem_cons]; exact fun h => h.elim (fun h => e h.symm) hm)]; rfl
theorem putP_mem {s : ByteArray} {n : Int} {p : ByteArray × Int} : ∀ {ps : List (ByteArray × Int)}, (nmsP ps).Nodup → p ∈ putP s n ps → p = (s, n) ∨ (p ∈ ps ∧ p.1 ≠ s)
  | [], _, h => by rw [putP] at h; exact .inl (List.mem_singleton.1 h)
  | q :: r, hd, h => by
    rw [putP] at h
    have hd2 : q.1 ∉ nmsP r ∧ (nmsP r).Nodup := List.nodup_cons.1 hd
    by_cases e : q.1 = s
    · rw [if_pos e] at h
      rcases List.mem_cons.1 h with h | h
      · left; rw [h, e]
      · right
        refine ⟨List.mem_cons_of_mem _ h, fun e2 => hd2.1 ?_⟩
        rw [e, ← e2]; exact List.mem_map.2 ⟨p, h, rfl⟩
    · rw [if_neg e] at h
      rcases List.mem_cons.1 h with h | h
      · right; rw [h]; exact ⟨List.mem_cons_self, e⟩
      · rcases putP_mem hd2.2 h with h | ⟨h1, h2⟩
        · exact .inl h
        · exact .inr ⟨List.mem_cons_of_mem _ h1, h2⟩
theorem putP_nodup {s : ByteArray} {n : Int} {ps : List (ByteArray × Int)} (hd : (nmsP ps).Nodup) : (nmsP (putP s n ps)).Nodup := by
  rw [nmsP_put]
  split
  · exact hd
  · rename_i h
    rw [List.nodup_append]
    exact ⟨hd, by simp, fun a ha b hb e => h (by rw [← List.mem_singleton.1 hb, ← e]; exact ha)⟩
theorem cutP_nodup {s : ByteArray} {ps : List (ByteArray × Int)} (hd : (nmsP ps).Nodup) : (nmsP (cutP s ps)).Nodup := by
  rw [← nmsP_cut]; exact hd.filter _
theorem putP_length (s : ByteArray) (n : Int) : ∀ ps : List (ByteArray × Int), (putP s n ps).length ≤ ps.length + 1
  | [] => Nat.le_refl _
  | p :: r => by
    rw [putP]
    split
    · simp
    · rw [List.length_cons, List.length_cons]; have := putP_length s n r; omega
theorem cutP_length (s : ByteArray) (ps : List (ByteArray × Int)) : (cutP s ps).length ≤ ps.length := List.length_filter_le _ _
theorem cutP_none {s : ByteArray} {ps : List (ByteArray × Int)} (h : s ∉ nmsP ps) : cutP s ps = ps := by
  unfold cutP
  rw [List.filter_eq_self]
  intro p hp
  have : p.1 ≠ s := fun e => h (by rw [← e]; exact List.mem_map.2 ⟨p, hp, rfl⟩)
  simp [this]
/-- The map holds what was set last. -/
def MapsTo {H : Type} (D : DataW H) (ps : List (ByteArray × Int)) : Prop :=
  Maps.IsMap D ∧ (∀ s, Maps.has D (keyS s) = decide (s ∈ nmsP ps)) ∧ ∀ p ∈ ps, D.atKey (keyS p.1) (.lit (.int .i64 0)) = .lit (.int .i64 p.2)
theorem keyS_ne {s t : ByteArray} (h : s ≠ t) : keyS s ≠ keyS t := fun e => h (by
  have := (same_keyS t s).1 (by rw [e]; exact (same_keyS t t).2 rfl)
  exact this.symm)
theorem keyS_lit (s : ByteArray) : WideAt.IsKeyLit (keyS s) := trivial
theorem MapsTo.nil {H : Type} : MapsTo (.map [] : DataW H) [] := ⟨Maps.isMap_empty, fun _ => rfl, fun _ h => by cases h⟩
theorem MapsTo.put {H : Type} {D : DataW H} {ps : List (ByteArray × Int)} (h : MapsTo D ps) (hd : (nmsP ps).Nodup) (s : ByteArray) (n : Int) : MapsTo (D.put (keyS s) (.lit (.int .i64 n))) (putP s n ps) := by
  obtain ⟨h1, h2, h3⟩ := h
  refine ⟨h1.put _ _, fun t => ?_, fun p hp => ?_⟩
  · rw [nmsP_put]
    by_cases e : t = s
    · subst e
      rw [Maps.has_put_same h1 (keyS_lit _)]
      split
      · rename_i h; simp [h]
      · simp
    · rw [Maps.has_put_other (keyS_ne e), h2]
      split
      · rfl
      · simp [e]
  · rcases putP_mem hd hp with rfl | ⟨hp1, hp2⟩
    · exact Maps.atKey_put_same h1 (keyS_lit _) _ _
    · rw [Maps.atKey_put_other (keyS_ne hp2)]; exact h3 p hp1
theorem MapsTo.del {H : Type} {D : DataW H} {ps : List (ByteArray × Int)} (h : MapsTo D ps) (s : ByteArray) : MapsTo (D.del (keyS s)) (cutP s ps) := by
  obtain ⟨h1, h2, h3⟩ := h
  refine ⟨h1.del _, fun t => ?_, fun p hp => ?_⟩
  · rw [← nmsP_cut]
    by_cases e : t = s
    · subst e; rw [Maps.has_del_same]; simp
    · rw [Maps.has_del_other (keyS_ne e), h2]; simp [e]
  · have hp2 := List.mem_filter.1 hp
    rw [Maps.atKey_del_other (keyS_ne (by simpa using hp2.2))]; exact h3 p hp2.1
/-- Names of one letter, small numbers. -/
def FineP (ps : List (ByteArray × Int)) : Prop := (nmsP ps).Nodup ∧ ∀ p ∈ ps, (∃ c, 97 ≤ c ∧ c ≤ 102 ∧ p.1 = letS c) ∧ 0 ≤ p.2 ∧ p.2 ≤ 127
theorem FineP.nil : FineP [] := ⟨List.nodup_nil, fun _ h => by cases h⟩
theorem FineP.put {ps : List (ByteArray × Int)} (h : FineP ps) {c : Nat} (h1 : 97 ≤ c) (h2 : c ≤ 102) {n : Int} (h3 : 0 ≤ n) (h4 : n ≤ 127) : FineP (putP (letS c) n ps) :=
  ⟨putP_nodup h.1, fun p hp => by
    rcases putP_mem h.1 hp with rfl | ⟨hp, _⟩
    · exact ⟨⟨c, h1, h2, rfl⟩, h3, h4⟩
    · exact h.2 p hp⟩
theorem FineP.cut {ps : List (ByteArray × Int)} (h : FineP ps) (s : ByteArray) : FineP (cutP s ps) :=
  ⟨cutP_nodup h.1, fun p hp => h.2 p (List.mem_filter.1 hp).1⟩
theorem letS_may {c : Nat} (h1 : 97 ≤ c) (h2 : c ≤ 102) : nameMay (letS c) = true := by
  obtain rfl | rfl | rfl | rfl | rfl | rfl : c = 97 ∨ c = 98 ∨ c = 99 ∨ c = 100 ∨ c = 101 ∨ c = 102 := by omega
  all_goals decide +kernel
theorem letS_bytes (c : Nat) : (Bson.bytes (letS c)).length = 1 := by
  rfl
theorem numV_enc (d : Nat) {n : Int} (h0 : 0 ≤ n) (h1 : n ≤ 127) : enc d (numV n) = some (leI n 4) := by
  rw [Bson.enc_other d _ (by show (3 : Int) ≠ 6; decide) (by show (3 : Int) ≠ 7; decide)]
  show Bson.scalarP 3 n _ _ _ = _
  unfold Bson.scalarP
  rw [if_neg (by decide), if_pos rfl, if_pos]
  have : Bson.bare (numV n) true false false false false = true := rfl
  rw [this]
  simp; omega
theorem row_fine : ∀ {ps : List (ByteArray × Int)}, (∀ p ∈ ps, (∃ c, 97 ≤ c ∧ c ≤ 102 ∧ p.1 = letS c) ∧ 0 ≤ p.2 ∧ p.2 ≤ 127) → ∃ r, row (enc 31) (rowV ps) = some r ∧ r.length = 7 * ps.length
  | [], _ => ⟨[], rfl, rfl⟩
  | p :: ps, h => by
    obtain ⟨r, h1, h2⟩ := row_fine fun q hq => h q (List.mem_cons_of_mem _ hq)
    obtain ⟨⟨c, c1, c2, e⟩, n0, n1⟩ := h p List.mem_cons_self
    have e2 : rowV (p :: ps) = (letS c, numV p.2) :: rowV ps := by rw [← e]; rfl
    have hr : row (enc 31) (rowV (p :: ps)) = some (code (numV p.2).kind :: (Bson.bytes (letS c) ++ (0 :: (leI p.2 4 ++ r)))) := by
      rw [e2, row, letS_may c1 c2, numV_enc 31 n0 n1, h1]
    refine ⟨_, hr, ?_⟩
    simp only [List.length_cons, List.length_append, letS_bytes, Bson.leI_length, h2]
    omega
theorem docV_may {ps : List (ByteArray × Int)} (h : FineP ps) (hl : ps.length ≤ 60) : (docB (docV ps)).isSome = true := by
  obtain ⟨r, h1, h2⟩ := row_fine h.2
  have hb : (Bson.bare (docV ps) false false false true false && decide ((docV ps).f.map (·.1)).Nodup) = true := by
    have e : (docV ps).f.map (·.1) = nmsP ps := by
      show (rowV ps).map (·.1) = _
      unfold rowV nmsP; rw [List.map_map]; rfl
    rw [e, decide_eq_true h.1]; rfl
  have he : Bson.enc 32 (docV ps) = some (wrap r) := by
    rw [Bson.enc_doc 31 _ rfl, if_pos hb]
    show (row (enc 31) (rowV ps)).map wrap = _
    rw [h1]; rfl
  unfold docB
  rw [if_pos (show (docV ps).kind = 6 from rfl), he]
  have hw : (wrap r).length ≤ 65536 := by simp [Bson.wrap, Bson.leI_length]; omega
  show (if (wrap r).length ≤ 65536 then some (wrap r) else none).isSome = true
  rw [if_pos hw]; rfl
theorem place_fine {ps : List (ByteArray × Int)} (hd : (nmsP ps).Nodup) {i : Nat} (hi : i < ps.length) : place (rowV ps) (ps[i]).1 = i := by
  unfold place
  rw [List.findIdx_eq (by rw [rowV_length]; exact hi)]
  refine ⟨by simp [rowV], fun j hj => ?_⟩
  have hj2 : j < ps.length := by omega
  have hne : (nmsP ps)[j]'(by rw [nmsP_length]; exact hj2) ≠ (nmsP ps)[i]'(by rw [nmsP_length]; exact hi) := List.pairwise_iff_getElem.1 hd j i _ _ hj
  simpa [rowV, nmsP] using hne
end Go.Proofs.YtdihelpimpkfoaaDoor
end
section
namespace Bson
open Go
/-- A value's bytes, kind by kind. -/
theorem scalar_parts {x : Val} {xs : List Nat} (h : scalar x = some xs) : (x.kind = 1 ∨ x.kind = 2 ∨ x.kind = 12) ∧ xs = [] ∨ x.kind = 3 ∧ xs = leI x.n 4 ∨ (x.kind = 4 ∨ x.kind = 11) ∧ xs = leI x.n 8 ∨ x.kind = 10 ∧ xs = leI x.n 1 ∨
    x.kind = 5 ∧ xs = leI (x.s.size + 1) 4 ++ (bytes x.s ++ [0]) ∨ x.kind = 8 ∧ xs = leI x.b.length 4 ++ (0 :: x.b) ∨ x.kind = 9 ∧ xs = x.b := by
  unfold scalar scalarP at h
  split at h
  · rename_i hk
    split at h
    · exact .inl ⟨hk, (Option.some.inj h).symm⟩
    · cases h
  split at h
  · rename_i hk
    split at h
    · exact .inr (.inl ⟨hk, (Option.some.inj h).symm⟩)
    · cases h
  split at h
  · rename_i hk
    split at h
    · exact .inr (.inr (.inl ⟨hk, (Option.some.inj h).symm⟩))
    · cases h
  split at h
  · rename_i hk
    split at h
    · exact .inr (.inr (.inr (.inl ⟨hk, (Option.some.inj h).symm⟩)))
    · cases h
  split at h
  · rename_i hk
    split at h
    · exact .inr (.inr (.inr (.inr (.inl ⟨hk, (Option.some.inj h).symm⟩))))
    · cases h
  split at h
  · rename_i hk
    split at h
    · exact .inr (.inr (.inr (.inr (.inr (.inl ⟨hk, (Option.some.inj h).symm⟩)))))
    · cases h
  split at h
  · rename_i hk
    split at h
    · exact .inr (.inr (.inr (.inr (.inr (.inr ⟨hk, (Option.some.inj h).symm⟩)))))
    · cases h
  cases h
end Bson
namespace Go.Proofs.YtdihelpimpkfoaaDoor
open Go.RowKit
open Seal
open Bson (Val)
section
variable {w : World} {base : Nat} {b : Value} {bs : List Nat}
set_option maxRecDepth 100000 in
set_option maxHeartbeats 2000000 in
theorem putV_num (x : Val) (ba fa la : Option Addr) (bc fc lc : Nat) (kd : Int) (n : Nat) (hkd : x.kind = kd) (hk : kd = 3 ∧ n = 4 ∨ kd = 4 ∧ n = 8 ∨ kd = 11 ∧ n = 8 ∨ kd = 10 ∧ n = 1) (hb : Own8 w base b bs) (hl : bs.length ≤ 900000) :
    Calls Tryd.prog 34 #[b, agg x ba fa la bc fc lc] w (PutPost w base (bs ++ Bson.leI x.n n)) := by
  unfold agg
  rw [hkd]
  have HB := Lib.hid (hb.below ((Below.refl _ w).alloc (Nat.le_refl _) (.cells #[.int .i64 kd, .int .i64 x.n, .string x.s, .slice ba x.b.length bc, .slice fa x.f.length fc, .slice la x.l.length lc] 28)))
  have HR := Lib.hid (PutRel.new ((Below.refl _ w).alloc (Nat.le_refl _) (.cells #[.int .i64 kd, .int .i64 x.n, .string x.s, .slice ba x.b.length bc, .slice fa x.f.length fc, .slice la x.l.length lc] 28)) hb.sz)
  have CN := Lib.hid (putNumber_own _ base b bs x.n n HB.out (by omega) (by omega))
  rw [Bson.putB_leI] at CN
  clear hkd hb
  rcases hk with ⟨rfl, rfl⟩ | ⟨rfl, rfl⟩ | ⟨rfl, rfl⟩ | ⟨rfl, rfl⟩
  all_goals
    go_enter Tryd.func34, Tryd.ntmps34
    go_wp2_with fail
    refine CN.out.mono ?_
    rintro e w2 ⟨v2, rfl, hO2, hR2⟩
    have HO2 := Lib.hid hO2
    have HR2 := Lib.hid (HR.out.trans hR2)
    clear hO2 hR2
    go_wp2_with fail
    go_ret
    exact ⟨v2, rfl, HO2.out, HR2.out⟩
set_option maxRecDepth 100000 in
set_option maxHeartbeats 2000000 in
theorem putV_none (x : Val) (ba fa la : Option Addr) (bc fc lc : Nat) (kd : Int) (hkd : x.kind = kd) (hk : kd = 1 ∨ kd = 2 ∨ kd = 12) (hb : Own8 w base b bs) :
    Calls Tryd.prog 34 #[b, agg x ba fa la bc fc lc] w (PutPost w base bs) := by
  unfold agg
  rw [hkd]
  have HB := Lib.hid (hb.below ((Below.refl _ w).alloc (Nat.le_refl _) (.cells #[.int .i64 kd, .int .i64 x.n, .string x.s, .slice ba x.b.length bc, .slice fa x.f.length fc, .slice la x.l.length lc] 28)))
  have HR := Lib.hid (PutRel.new ((Below.refl _ w).alloc (Nat.le_refl _) (.cells #[.int .i64 kd, .int .i64 x.n, .string x.s, .slice ba x.b.length bc, .slice fa x.f.length fc, .slice la x.l.length lc] 28)) hb.sz)
  clear hkd hb
  rcases hk with rfl | rfl | rfl
  all_goals
    go_enter Tryd.func34, Tryd.ntmps34
    go_wp2_with fail
    go_ret
    exact ⟨b, rfl, HB.out, HR.out⟩
theorem src_in {w w' : World} {Q : Nat → Prop} {ba : Option Addr} {l : List Nat} {base : Nat} (h : BytesIn w Q ba l) (hQ : ∀ g, Q g → g < base) (hb : Below base w w') : Src w' ba l.length (u8s l) := by
  rcases h with h | ⟨g, o, rfl, hq, h⟩
  · subst h; exact ⟨fun _ => rfl, fun ad _ j u hj => by simp [u8s] at hj⟩
  · refine ⟨nofun, fun ad e j u hj => ?_⟩
    cases e
    have hj2 : j < l.length := by have := (List.getElem?_eq_some_iff.1 hj).1; simpa [u8s] using this
    have h1 := (World.cell?_of_block (a := ⟨g, o + j, none⟩) (hb.block g (hQ g hq))).trans (h j hj2)
    have e2 : u = .int .u8 (l[j] : Nat) := by
      have : (u8s l)[j]? = some (u8 l[j]) := by simp [u8s, hj2]
      rw [this] at hj
      exact (Option.some.inj hj).symm
    rw [e2]
    have e3 : l.getD j 0 = l[j] := by simp [hj2]
    rw [e3] at h1
    have e4 : (⟨g, o, none⟩ : Addr).add j = ⟨g, o + j, none⟩ := by unfold Addr.add; split <;> simp_all
    rw [e4]
    exact h1
set_option maxRecDepth 100000 in
set_option maxHeartbeats 2000000 in
theorem putV_text (x : Val) (ba fa la : Option Addr) (bc fc lc : Nat) (hkd : x.kind = 5) (hb : Own8 w base b bs) (hl : bs.length + (5 + x.s.size) ≤ 900000) :
    Calls Tryd.prog 34 #[b, agg x ba fa la bc fc lc] w (PutPost w base (bs ++ (Bson.leI (x.s.size + 1) 4 ++ (Bson.bytes x.s ++ [0])))) := by
  obtain ⟨i0, hi, hz0, hz1, hz2⟩ := info_parts infoU8
  unfold agg
  rw [hkd]
  have hsz := hb.sz
  have HB := Lib.hid (hb.below ((Below.refl _ w).alloc (Nat.le_refl _) (.cells #[.int .i64 5, .int .i64 x.n, .string x.s, .slice ba x.b.length bc, .slice fa x.f.length fc, .slice la x.l.length lc] 28)))
  have HR := Lib.hid (PutRel.new ((Below.refl _ w).alloc (Nat.le_refl _) (.cells #[.int .i64 5, .int .i64 x.n, .string x.s, .slice ba x.b.length bc, .slice fa x.f.length fc, .slice la x.l.length lc] 28)) hb.sz)
  have HX : Hid ((w.alloc (.cells #[.int .i64 5, .int .i64 x.n, .string x.s, .slice ba x.b.length bc, .slice fa x.f.length fc, .slice la x.l.length lc] 28)).heap[w.heap.size]? = some (.cells #[.int .i64 5, .int .i64 x.n, .string x.s, .slice ba x.b.length bc, .slice fa x.f.length fc, .slice la x.l.length lc] 28 (0, 0))) := heap_alloc_new w _
  have CN := Lib.hid (putNumber_own _ base b bs ((x.s.size : Int) + 1) 4 HB.out (by omega) (by omega))
  rw [Bson.putB_leI] at CN
  have hsx : x.s.size ≤ 900000 := by omega
  clear hkd hb
  go_enter Tryd.func34, Tryd.ntmps34
  go_wp2_with fail
  refine CN.out.mono ?_
  rintro e W2 ⟨v2, rfl, hO2, hR2⟩
  have HX2 := Lib.hid (hR2.keep _ _ _ _ (by decide) HX.out)
  have HR2 := Lib.hid (HR.out.trans hR2)
  have q0 := cell_of_row _ _ 0 _ _ _ HX2.out
  have q1 := cell_of_row _ _ 1 _ _ _ HX2.out
  have q2 := cell_of_row _ _ 2 _ _ _ HX2.out
  have q3 := cell_of_row _ _ 3 _ _ _ HX2.out
  have q4 := cell_of_row _ _ 4 _ _ _ HX2.out
  have q5 := cell_of_row _ _ 5 _ _ _ HX2.out
  obtain ⟨n2, hn2⟩ : ∃ n, n = (bs ++ Bson.leI ((x.s.size : Int) + 1) 4).length := ⟨_, rfl⟩
  have hn2l : n2 ≤ bs.length + 4 := by rw [hn2]; simp [Bson.leI_length]
  have hown2 := hO2.own
  have hs2 := hO2.sz
  rw [← hn2] at hown2
  have HN2 := Lib.hid hn2
  clear hR2 hO2 hn2
  go_wp2_with (at_builtin; refine Lib.wpList_append_own_string _ rfl _ _ 22 9 rfl base 5 i0 Tryd.underlying22 Tryd.underlying9 hi hz0 hz1 hz2 v2 n2 _ rfl hown2 x.s rfl ?c4 ?c5 ?c6 ?_)
  case c4 => unfold maxLen; omega
  case c5 => omega
  case c6 => exact hs2
  intro v4 W4 hown4 hg4 _
  have HR4 : Hid (PutRel base W2 W4) := PutRel.own hown2 hs2 hg4
  have hs4 : base ≤ W4.heap.size := Nat.le_trans hs2 HR4.out.below.size
  clear hown2 hg4 q0 q1 q2 q3 q4 q5
  go_wp2_with (at_builtin; refine wpList_append_own _ rfl _ _ 22 rfl base 5 i0 (.int .u8 0) 1 1 Tryd.underlying22 hi hz0 hz1 hz2 rfl (by decide) _ (n2 + x.s.size) _ rfl (hown4.alloc _) ⟨W4.heap.size, 0, none⟩ 1 1 [.int .u8 0] rfl rfl ?c1 ?c2 ?c4 ?c5 ?c6 ?_)
  case c1 => exact oneNew8 _ _
  case c2 => intro u hu; simp at hu; subst hu; rfl
  case c4 => unfold maxLen; omega
  case c5 => omega
  case c6 => simp; omega
  intro v5 W5 hown5 hg5 _
  have HR5 : Hid (PutRel base W4 W5) := (PutRel.new ((Below.refl _ W4).alloc (Nat.le_refl _) _) hs4).trans (PutRel.own (hown4.alloc _) (by simp; omega) hg5)
  have hs5 : base ≤ W5.heap.size := Nat.le_trans hs4 HR5.out.below.size
  have HO5 : Hid (Own8 W5 base v5 (bs ++ (Bson.leI (x.s.size + 1) 4 ++ (Bson.bytes x.s ++ [0])))) := by
    have h1 : W5.ownsRow base 5 1 v5 (n2 + x.s.size + 1) (u8s ((bs ++ Bson.leI ((x.s.size : Int) + 1) 4) ++ (Bson.bytes x.s ++ [0]))) := by
      rw [strCells_u8s] at hown5
      rw [← u8s_snoc, ← u8s_snoc (Bson.bytes x.s)]
      exact hown5
    have e : ((bs ++ Bson.leI ((x.s.size : Int) + 1) 4) ++ (Bson.bytes x.s ++ [0])).length = n2 + x.s.size + 1 := by rw [List.length_append, ← HN2.out]; simp [Bson.bytes_length]; omega
    rw [← e] at h1
    rw [← List.append_assoc]
    exact ⟨h1, hs5⟩
  have HRA := Lib.hid (HR2.out.trans (HR4.out.trans HR5.out))
  clear hown4 hown5 hg5
  go_wp2_with fail
  go_ret
  exact ⟨v5, rfl, HO5.out, HRA.out⟩
set_option maxRecDepth 100000 in
set_option maxHeartbeats 2000000 in
theorem putV_bytes (Q : Nat → Prop) (x : Val) (ba fa la : Option Addr) (bc fc lc : Nat) (hkd : x.kind = 8) (hB : BytesIn w Q ba x.b) (hQ : ∀ g, Q g → g < base) (hb : Own8 w base b bs) (hl : bs.length + (5 + x.b.length) ≤ 900000) :
    Calls Tryd.prog 34 #[b, agg x ba fa la bc fc lc] w (PutPost w base (bs ++ (Bson.leI x.b.length 4 ++ (0 :: x.b)))) := by
  obtain ⟨i0, hi, hz0, hz1, hz2⟩ := info_parts infoU8
  unfold agg
  rw [hkd]
  have hsz := hb.sz
  have HB := Lib.hid (hb.below ((Below.refl _ w).alloc (Nat.le_refl _) (.cells #[.int .i64 8, .int .i64 x.n, .string x.s, .slice ba x.b.length bc, .slice fa x.f.length fc, .slice la x.l.length lc] 28)))
  have HR := Lib.hid (PutRel.new ((Below.refl _ w).alloc (Nat.le_refl _) (.cells #[.int .i64 8, .int .i64 x.n, .string x.s, .slice ba x.b.length bc, .slice fa x.f.length fc, .slice la x.l.length lc] 28)) hb.sz)
  have HX : Hid ((w.alloc (.cells #[.int .i64 8, .int .i64 x.n, .string x.s, .slice ba x.b.length bc, .slice fa x.f.length fc, .slice la x.l.length lc] 28)).heap[w.heap.size]? = some (.cells #[.int .i64 8, .int .i64 x.n, .string x.s, .slice ba x.b.length bc, .slice fa x.f.length fc, .slice la x.l.length lc] 28 (0, 0))) := heap_alloc_new w _
  have CN := Lib.hid (putNumber_own _ base b bs (x.b.length : Int) 4 HB.out (by omega) (by omega))
  rw [Bson.putB_leI] at CN
  have HBI := Lib.hid hB
  have HQ := Lib.hid hQ
  have hsx : x.b.length ≤ 900000 := by omega
  obtain ⟨nb, hnb⟩ : ∃ n, n = x.b.length := ⟨_, rfl⟩
  have HNB := Lib.hid hnb
  rw [← hnb] at CN HX hl hsx ⊢
  clear hkd hb hB hQ hnb
  go_enter Tryd.func34, Tryd.ntmps34
  go_wp2_with fail
  rw [← HNB.out] at HR HB
  refine CN.out.mono ?_
  rintro e W2 ⟨v2, rfl, hO2, hR2⟩
  have HX2 := Lib.hid (hR2.keep _ _ _ _ (by decide) HX.out)
  have HR2 := Lib.hid (HR.out.trans hR2)
  have q0 := cell_of_row _ _ 0 _ _ _ HX2.out
  have q1 := cell_of_row _ _ 1 _ _ _ HX2.out
  have q2 := cell_of_row _ _ 2 _ _ _ HX2.out
  have q3 := cell_of_row _ _ 3 _ _ _ HX2.out
  have q4 := cell_of_row _ _ 4 _ _ _ HX2.out
  have q5 := cell_of_row _ _ 5 _ _ _ HX2.out
  obtain ⟨n2, hn2⟩ : ∃ n, n = (bs ++ Bson.leI (nb : Int) 4).length := ⟨_, rfl⟩
  have hn2l : n2 ≤ bs.length + 4 := by rw [hn2]; simp [Bson.leI_length]
  have hown2 := hO2.own
  have hs2 := hO2.sz
  rw [← hn2] at hown2
  have HN2 := Lib.hid hn2
  clear hR2 hO2 hn2
  go_wp2_with (at_builtin; refine wpList_append_own _ rfl _ _ 22 rfl base 5 i0 (.int .u8 0) 1 1 Tryd.underlying22 hi hz0 hz1 hz2 rfl (by decide) _ n2 _ rfl (hown2.alloc _) ⟨W2.heap.size, 0, none⟩ 1 1 [.int .u8 0] rfl rfl ?c1 ?c2 ?c4 ?c5 ?c6 ?_)
  case c1 => exact oneNew8 _ _
  case c2 => intro u hu; simp at hu; subst hu; rfl
  case c4 => unfold maxLen; omega
  case c5 => omega
  case c6 => simp; omega
  intro v4 W4 hown4 hg4 _
  have HR4 : Hid (PutRel base W2 W4) := (PutRel.new ((Below.refl _ W2).alloc (Nat.le_refl _) _) hs2).trans (PutRel.own (hown2.alloc _) (by simp; omega) hg4)
  have hs4 : base ≤ W4.heap.size := Nat.le_trans hs2 HR4.out.below.size
  have HX4 := Lib.hid (HR4.out.keep _ _ _ _ (by decide) HX2.out)
  have hsrc := src_in HBI.out HQ.out (HR2.out.trans HR4.out).below
  rw [← HNB.out] at hsrc
  have q0 := cell_of_row _ _ 0 _ _ _ HX4.out
  have q3 := cell_of_row _ _ 3 _ _ _ HX4.out
  clear hown2 hg4
  go_wp2_with (at_builtin; refine wpList_src rfl _ _ 22 rfl base 5 i0 (.int .u8 0) 1 1 Tryd.underlying22 hi hz0 hz1 hz2 rfl (by decide) v4 (n2 + 1) _ rfl hown4 ba nb bc (u8s x.b) rfl hsrc ?c1 (u8s_cell _) ?c4 ?c5 hs4 ?_)
  case c1 => rw [HNB.out]; simp [u8s]
  case c4 => unfold maxLen; omega
  case c5 => omega
  intro v5 W5 hown5 hg5
  have HR5 : Hid (PutRel base W4 W5) := PutRel.own hown4 hs4 hg5
  have hs5 : base ≤ W5.heap.size := Nat.le_trans hs4 HR5.out.below.size
  have HO5 : Hid (Own8 W5 base v5 (bs ++ (Bson.leI nb 4 ++ (0 :: x.b)))) := by
    have h1 : W5.ownsRow base 5 1 v5 (n2 + 1 + nb) (u8s ((bs ++ Bson.leI (nb : Int) 4) ++ ([0] ++ x.b))) := by
      rw [← u8s_snoc, ← u8s_snoc [0]]
      exact hown5
    have e : ((bs ++ Bson.leI (nb : Int) 4) ++ ([0] ++ x.b)).length = n2 + 1 + nb := by rw [List.length_append, ← HN2.out, HNB.out]; simp; omega
    rw [← e] at h1
    have e2 : bs ++ (Bson.leI nb 4 ++ (0 :: x.b)) = (bs ++ Bson.leI (nb : Int) 4) ++ ([0] ++ x.b) := by rw [List.append_assoc]; rfl
    rw [e2]
    exact ⟨h1, hs5⟩
  have HRA := Lib.hid (HR2.out.trans (HR4.out.trans HR5.out))
  clear hown4 hown5 hg5 q0 q3
  go_wp2_with fail
  go_ret
  exact ⟨v5, rfl, HO5.out, HRA.out⟩
set_option maxRecDepth 100000 in
set_option maxHeartbeats 2000000 in
theorem putV_id (Q : Nat → Prop) (x : Val) (ba fa la : Option Addr) (bc fc lc : Nat) (hkd : x.kind = 9) (hB : BytesIn w Q ba x.b) (hQ : ∀ g, Q g → g < base) (hb : Own8 w base b bs) (hl : bs.length + x.b.length ≤ 900000) :
    Calls Tryd.prog 34 #[b, agg x ba fa la bc fc lc] w (PutPost w base (bs ++ x.b)) := by
  obtain ⟨i0, hi, hz0, hz1, hz2⟩ := info_parts infoU8
  unfold agg
  rw [hkd]
  have hsz := hb.sz
  have HB := Lib.hid (hb.below ((Below.refl _ w).alloc (Nat.le_refl _) (.cells #[.int .i64 9, .int .i64 x.n, .string x.s, .slice ba x.b.length bc, .slice fa x.f.length fc, .slice la x.l.length lc] 28)))
  have HR := Lib.hid (PutRel.new ((Below.refl _ w).alloc (Nat.le_refl _) (.cells #[.int .i64 9, .int .i64 x.n, .string x.s, .slice ba x.b.length bc, .slice fa x.f.length fc, .slice la x.l.length lc] 28)) hb.sz)
  have HX : Hid ((w.alloc (.cells #[.int .i64 9, .int .i64 x.n, .string x.s, .slice ba x.b.length bc, .slice fa x.f.length fc, .slice la x.l.length lc] 28)).heap[w.heap.size]? = some (.cells #[.int .i64 9, .int .i64 x.n, .string x.s, .slice ba x.b.length bc, .slice fa x.f.length fc, .slice la x.l.length lc] 28 (0, 0))) := heap_alloc_new w _
  obtain ⟨nb, hnb⟩ : ∃ n, n = x.b.length := ⟨_, rfl⟩
  obtain ⟨n2, hn2⟩ : ∃ n, n = bs.length := ⟨_, rfl⟩
  have HNB := Lib.hid hnb
  have HN2 := Lib.hid hn2
  have hsrc := src_in hB hQ HR.out.below
  have hown2 := HB.out.own
  have hs2 := HB.out.sz
  rw [← hnb] at hl hsrc hown2 hs2 HR ⊢
  rw [← hn2] at hl hown2
  clear hkd hb hB hQ hnb hn2
  go_enter Tryd.func34, Tryd.ntmps34
  go_wp2_with (at_builtin; refine wpList_src rfl _ _ 22 rfl base 5 i0 (.int .u8 0) 1 1 Tryd.underlying22 hi hz0 hz1 hz2 rfl (by decide) b n2 _ rfl hown2 ba nb bc (u8s x.b) rfl hsrc ?c1 (u8s_cell _) ?c4 ?c5 hs2 ?_)
  case c1 => rw [HNB.out]; simp [u8s]
  case c4 => unfold maxLen; omega
  case c5 => omega
  intro v5 W5 hown5 hg5
  have HR5 := Lib.hid (HR.out.trans (PutRel.own hown2 hs2 hg5))
  have HO5 : Hid (Own8 W5 base v5 (bs ++ x.b)) := by
    refine ⟨?_, Nat.le_trans hsz HR5.out.below.size⟩
    rw [List.length_append, ← HN2.out, ← HNB.out, ← u8s_snoc]
    exact hown5
  clear hown5 hg5 hown2
  go_wp2_with fail
  go_ret
  exact ⟨v5, rfl, HO5.out, HR5.out⟩
end
end Go.Proofs.YtdihelpimpkfoaaDoor
end
