/- BsonOrdMem, BsonPutAll, BsonEncode. -/
import Derived.Laws.MakeOwn
import Derived.Test.YtdihelpimpkfoaaDoorMg21
import Derived.Test.YtdihelpimpkfoaaDoorMg30
import Derived.Test.YtdihelpimpkfoaaDoorMg5
import Derived.Test.YtdihelpimpkfoaaDoorMg9
set_option maxRecDepth 100000
section
namespace Go.Proofs.YtdihelpimpkfoaaDoor
open Go.RowKit
open Seal
open Bson (Val)
/-- Of what was there only the blocks that P names have turned. -/
structure Mv (w w' : World) (P : Nat → Prop) : Prop where
  os : w'.os = w.os
  tape : w'.tape = w.tape
  output : w'.output = w.output
  size : w.heap.size ≤ w'.heap.size
  block : ∀ g, g < w.heap.size → ¬ P g → w'.heap[g]? = w.heap[g]?
theorem Mv.of_below {w w' : World} (h : Below w.heap.size w w') : Mv w w' (fun _ => False) := ⟨h.os, h.tape, h.output, h.size, fun g hg _ => h.block g hg⟩
theorem Mv.of_grown {w w' : World} {r : Option Nat} (h : w.grownBy w' r) : Mv w w' (fun g => r = some g) := ⟨h.os, h.tape, h.output, h.size, fun g hg hne => h.block g hg (fun e => hne e.symm)⟩
theorem Mv.below {w0 w w' : World} {P : Nat → Prop} (h : Below w0.heap.size w0 w) (hm : Mv w w' P) (h0 : ∀ g, g < w0.heap.size → ¬ P g) : Below w0.heap.size w0 w' :=
  ⟨hm.os.trans h.os, hm.tape.trans h.tape, hm.output.trans h.output, Nat.le_trans h.size hm.size, fun g hg => (hm.block g (by have := h.size; omega) (h0 g hg)).trans (h.block g hg)⟩
theorem omap_keep {H : Type} {P : Program} {k : TypeId} {R : Value → Option (DataW H × List MemPlace)} {w w' : World} {b n : Nat} {D : DataW H} (h : w.ownsMap P k R b n D) (e : w'.heap[b]? = w.heap[b]?) : w'.ownsMap P k R b n D := by
  obtain ⟨es, clock, h1, h2⟩ := h
  exact ⟨es, clock, e.trans h1, h2⟩
theorem omap_lt {H : Type} {P : Program} {k : TypeId} {R : Value → Option (DataW H × List MemPlace)} {w : World} {b n : Nat} {D : DataW H} (h : w.ownsMap P k R b n D) : b < w.heap.size := by
  obtain ⟨es, clock, h1, _⟩ := h
  exact (Array.getElem?_eq_some_iff.1 h1).1
def strV (l : List ByteArray) : List Value := l.map Value.string
/-- The document's box, the map, the row of names. -/
structure OSt (w0 w : World) (gb bm : Nat) (ov : Value) (pv pm : List (ByteArray × Int)) (po : List ByteArray) (k : Nat) (c0 c1 c2 c3 c4 c5 : Value) (lo hi : Nat) (D : DataW Unit) : Prop where
  below : Below w0.heap.size w0 w
  b0 : w0.heap.size ≤ gb
  b1 : gb < bm
  b2 : bm < lo
  b3 : hi ≤ w.heap.size
  box : IsBox w gb c0 c1 c2 c3 c4 c5
  vin : VIn w (fun g => lo ≤ g ∧ g < hi) 2 (docV pv) (.agg #[c0, c1, c2, c3, c4, c5])
  map : w.ownsMap Tryd.prog 9 (plainElem Tryd.prog 2) bm k D
  mto : MapsTo D pm
  own : w.ownsRow (bm + 1) 9 1 ov po.length (strV po)
  far : ∀ g, ov.ownBlock = some g → g < lo ∨ hi ≤ g
section
variable {w0 w w' : World} {gb bm k lo hi : Nat} {ov ov' : Value} {pv pm pv' pm' : List (ByteArray × Int)} {po po' : List ByteArray} {c0 c1 c2 c3 c4 c5 : Value} {D D' : DataW Unit}
theorem OSt.move {P : Nat → Prop} (h : OSt w0 w gb bm ov pv pm po k c0 c1 c2 c3 c4 c5 lo hi D) (hm : Mv w w' P) (h0 : ∀ g, g < w0.heap.size → ¬ P g) (hb : ¬ P gb) (hmb : ¬ P bm) (hv : ∀ g, lo ≤ g → g < hi → ¬ P g) (ho : ∀ g, ov.ownBlock = some g → ¬ P g) :
    OSt w0 w' gb bm ov pv pm po k c0 c1 c2 c3 c4 c5 lo hi D :=
  ⟨hm.below h.below h0, h.b0, h.b1, h.b2, Nat.le_trans h.b3 hm.size, (hm.block _ h.box.lt hb).trans h.box, h.vin.kept (fun g hg hl => hm.block g hl (hv g hg.1 hg.2)) (fun _ z => z), omap_keep h.map (hm.block _ (omap_lt h.map) hmb), h.mto,
    owns_same h.own (fun g hg => hm.block g (owns_block h.own hg).2 (ho g hg)), h.far⟩
theorem OSt.keep (h : OSt w0 w gb bm ov pv pm po k c0 c1 c2 c3 c4 c5 lo hi D) (hb : Below w.heap.size w w') : OSt w0 w' gb bm ov pv pm po k c0 c1 c2 c3 c4 c5 lo hi D :=
  h.move (Mv.of_below hb) (fun _ _ z => z) (fun z => z) (fun z => z) (fun _ _ _ z => z) (fun _ _ z => z)
theorem OSt.store {d0 d1 d2 d3 d4 d5 : Value} {lo' hi' : Nat} (h : OSt w0 w gb bm ov pv pm po k c0 c1 c2 c3 c4 c5 lo hi D) (hv : VIn w (fun g => lo' ≤ g ∧ g < hi') 2 (docV pv') (.agg #[d0, d1, d2, d3, d4, d5])) (hlo : bm < lo') (hhi : hi' ≤ w.heap.size) (hfar : ∀ g, ov.ownBlock = some g → g < lo' ∨ hi' ≤ g) :
    OSt w0 (puts w gb 0 [d0, d1, d2, d3, d4, d5]) gb bm ov pv' pm po k d0 d1 d2 d3 d4 d5 lo' hi' D := by
  have h1 := h.b0
  have h2 := h.b1
  refine ⟨puts_below h.below h1 _ _, h1, h2, hlo, by rw [puts_size]; exact hhi, h.box.put d0 d1 d2 d3 d4 d5, hv.kept (puts_kept _ (by omega) _ _) (fun _ z => z), omap_keep h.map (puts_other _ _ (by omega) _ _ _), h.mto, owns_same h.own (fun g hg => puts_other _ _ (by have := owns_block h.own hg; omega) _ _ _), hfar⟩
theorem OSt.turned {k' : Nat} (h : OSt w0 w gb bm ov pv pm po k c0 c1 c2 c3 c4 c5 lo hi D) (hm : w'.ownsMap Tryd.prog 9 (plainElem Tryd.prog 2) bm k' D') (mt : MapsTo D' pm') (ht : w.mapTurned w' bm) :
    OSt w0 w' gb bm ov pv pm' po k' c0 c1 c2 c3 c4 c5 lo hi D' := by
  have hg := Mv.of_grown ht.grown
  have h1 := h.b0
  have h2 := h.b1
  have h3 := h.b2
  refine ⟨hg.below h.below (fun g hl e => by have := Option.some.inj e; omega), h1, h2, h3, Nat.le_trans h.b3 hg.size, (hg.block _ h.box.lt (fun e => by have := Option.some.inj e; omega)).trans h.box, h.vin.kept (fun g hq hl => hg.block g hl (fun e => by have := Option.some.inj e; omega)) (fun _ z => z), hm, mt,
    owns_same h.own (fun g hq => hg.block g (owns_block h.own hq).2 (fun e => by have := Option.some.inj e; have := owns_block h.own hq; omega)), h.far⟩
theorem OSt.ordered (h : OSt w0 w gb bm ov pv pm po k c0 c1 c2 c3 c4 c5 lo hi D) (hl : Lies w w' ov ov') (ho : w'.ownsRow (bm + 1) 9 1 ov' po'.length (strV po')) : OSt w0 w' gb bm ov' pv pm po' k c0 c1 c2 c3 c4 c5 lo hi D := by
  have h1 := h.b0
  have h2 := h.b1
  have h3 := h.b2
  have hg : Mv w w' (fun g => ov.ownBlock = some g) := by
    rcases hl with ⟨_, hl⟩ | ⟨_, hl⟩
    · exact Mv.of_grown hl
    · exact ⟨hl.os, hl.tape, hl.output, hl.size, fun g hg _ => hl.block g hg nofun⟩
  have hbs : ∀ g, ov.ownBlock = some g → bm + 1 ≤ g := fun g hg => (owns_block h.own hg).1
  refine ⟨hg.below h.below (fun g hl e => by have := hbs g e; omega), h1, h2, h3, Nat.le_trans h.b3 hg.size, (hg.block _ h.box.lt (fun e => by have := hbs _ e; omega)).trans h.box, h.vin.kept (fun g hq hl => hg.block g hl (fun e => by have := h.far g e; omega)) (fun _ z => z), omap_keep h.map (hg.block _ (omap_lt h.map) (fun e => by have := hbs _ e; omega)), h.mto, ho, fun g hq => ?_⟩
  rcases hl with ⟨e, _⟩ | ⟨e, _⟩
  · exact h.far g (by rw [← e]; exact hq)
  · rw [e] at hq
    have : w.heap.size = g := Option.some.inj hq
    right; have := h.b3; omega
theorem OSt.renamed (h : OSt w0 w gb bm ov pv pm po k c0 c1 c2 c3 c4 c5 lo hi D) (ho : w.ownsRow (bm + 1) 9 1 ov' po'.length (strV po')) (hf : ∀ g, ov'.ownBlock = some g → g < lo ∨ hi ≤ g) : OSt w0 w gb bm ov' pv pm po' k c0 c1 c2 c3 c4 c5 lo hi D :=
  ⟨h.below, h.b0, h.b1, h.b2, h.b3, h.box, h.vin, h.map, h.mto, ho, hf⟩
end
theorem own_some {w : World} {base : Nat} {e : TypeId} {size : Nat} {v : Value} {n : Nat} {xs : List Value} (h : w.ownsRow base e size v n xs) (hn : 0 < n) : ∃ g cap, v = .slice (some ⟨g, 0, none⟩) n cap ∧ n ≤ cap := by
  obtain ⟨_, ⟨rfl, rfl⟩ | ⟨g, cap, cur, rfl, _, _, hc, _⟩⟩ := h
  · cases hn
  · exact ⟨g, cap, rfl, hc⟩
theorem owns_low {w : World} {B B' : Nat} {e : TypeId} {size : Nat} {v : Value} {n : Nat} {xs : List Value} (hB : B' ≤ B) (h : w.ownsRow B e size v n xs) : w.ownsRow B' e size v n xs := by
  obtain ⟨h1, ⟨rfl, h2⟩ | ⟨g, cap, cur, e, hb, h3⟩⟩ := h
  · exact ⟨h1, .inl ⟨rfl, h2⟩⟩
  · exact ⟨h1, .inr ⟨g, cap, cur, e, Nat.le_trans hB hb, h3⟩⟩
/-- The names ahead that are left. -/
def leftN (s : ByteArray) (ps : List (ByteArray × Int)) (q : Nat) : List ByteArray := ((nmsP ps).take q).filter fun t => !decide (t = s)
theorem leftN_next {s : ByteArray} {ps : List (ByteArray × Int)} {q : Nat} (hq : q < (nmsP ps).length) : leftN s ps (q + 1) = if (nmsP ps)[q] = s then leftN s ps q else leftN s ps q ++ [(nmsP ps)[q]] := by
  unfold leftN
  rw [List.take_succ_eq_append_getElem hq, List.filter_append]
  by_cases e : (nmsP ps)[q] = s
  · rw [if_pos e]; simp [e]
  · rw [if_neg e]; simp [e]
theorem leftN_end {s : ByteArray} {ps : List (ByteArray × Int)} : leftN s ps (nmsP ps).length = nmsP (cutP s ps) := by unfold leftN; rw [List.take_length, nmsP_cut]
theorem leftN_length (s : ByteArray) (ps : List (ByteArray × Int)) (q : Nat) : (leftN s ps q).length ≤ q := by
  unfold leftN
  have h1 := List.length_filter_le (fun t : ByteArray => !decide (t = s)) ((nmsP ps).take q)
  have h2 := List.length_take_le q (nmsP ps)
  omega
theorem docV_nil_in (w : World) (Q : Nat → Prop) : VIn w Q 2 (docV []) (.agg #[.int .i64 6, .int .i64 0, .string ⟨#[]⟩, .slice none 0 0, .slice none 0 0, .slice none 0 0]) := leaf_in w Q 6 0 (by omega) (by omega) 1
theorem numV_in (w : World) (Q : Nat → Prop) (n : Int) (h0 : 0 ≤ n) (h1 : n ≤ 127) : VIn w Q 1 (numV n) (.agg #[.int .i64 3, .int .i64 n, .string ⟨#[]⟩, .slice none 0 0, .slice none 0 0, .slice none 0 0]) := leaf_in w Q 3 n (by omega) (by omega) 0
/-- A field of such a document in memory. -/
theorem vin_field {w : World} {Q : Nat → Prop} {ps : List (ByteArray × Int)} {ka na : Int} {sa : ByteArray} {ba fa la : Option Addr} {bl bc fl fc ll lc q : Nat} (hv : VIn w Q 2 (docV ps) (.agg #[.int .i64 ka, .int .i64 na, .string sa, .slice ba bl bc, .slice fa fl fc, .slice la ll lc])) (hq : q < ps.length) :
    ∃ g o, fa = some ⟨g, o, none⟩ ∧ w.cell? ⟨g, o + q * 7, none⟩ = some (.string (ps[q]).1) ∧ w.cell? ⟨g, o + q * 7 + 1 + 1, none⟩ = some (.int .i64 (ps[q]).2) := by
  obtain ⟨ba', fa', la', bc', fc', lc', e, -, -, -, -, -, hF, -⟩ := hv
  unfold agg at e
  simp only [Value.agg.injEq, Array.mk.injEq, List.cons.injEq, Value.slice.injEq, and_true] at e
  obtain ⟨-, -, -, -, ⟨rfl, -, -⟩, -⟩ := e
  have hql : q < (docV ps).f.length := by show q < (rowV ps).length; rw [rowV_length]; exact hq
  obtain ⟨g, o, e1, -, hall⟩ := hF.resolve_left (fun e => by rw [e] at hql; cases hql)
  obtain ⟨h1, -, v, ⟨c0, c1, c2, c3, c4, c5, ev, k0, k1, k2, k3, k4, k5⟩, hV⟩ := hall q hql
  have e2 : (docV ps).f[q] = ((ps[q]).1, numV (ps[q]).2) := by show (rowV ps)[q]'_ = _; simp [rowV]
  rw [e2] at h1 hV
  obtain ⟨b6, f6, l6, c6, d6, m6, e6, -⟩ := hV
  rw [ev] at e6
  unfold agg at e6
  simp only [Value.agg.injEq, Array.mk.injEq, List.cons.injEq, and_true] at e6
  refine ⟨g, o, e1, h1, ?_⟩
  rw [k1, e6.2.1]; rfl
theorem getV_zz {ps : List (ByteArray × Int)} (h : FineP ps) : getV (docV ps).f ⟨#[122, 122]⟩ = Bson.zero := by
  unfold getV
  rw [show (docV ps).f = rowV ps from rfl]
  by_cases hp : place (rowV ps) ⟨#[122, 122]⟩ < (rowV ps).length
  · exfalso
    have h0 : decide ((rowV ps)[place (rowV ps) ⟨#[122, 122]⟩].1 = ⟨#[122, 122]⟩) = true := List.findIdx_getElem (p := fun p : ByteArray × Val => decide (p.1 = ⟨#[122, 122]⟩)) (w := hp)
    have h1 := of_decide_eq_true h0
    have h2 : place (rowV ps) ⟨#[122, 122]⟩ < ps.length := by rw [← rowV_length ps]; exact hp
    have h3 : (rowV ps)[place (rowV ps) ⟨#[122, 122]⟩].1 = (ps[place (rowV ps) ⟨#[122, 122]⟩]).1 := by simp [rowV]
    obtain ⟨⟨c, _, _, e⟩, _⟩ := h.2 _ (List.getElem_mem h2)
    rw [h3, e] at h1
    have h4 : (letS c).size = (⟨#[122, 122]⟩ : ByteArray).size := by rw [h1]
    exact absurd h4 (by show ¬ (1 : Nat) = 2; decide)
  · rw [List.getElem?_eq_none (by omega)]; rfl
theorem withF_row (s : ByteArray) (n : Int) : ∀ ps : List (ByteArray × Int), withF s (numV n) (rowV ps) = rowV (putP s n ps)
  | [] => rfl
  | p :: r => by
    have e1 : rowV (p :: r) = (p.1, numV p.2) :: rowV r := rfl
    rw [e1, withF, putP]
    by_cases e : p.1 = s
    · rw [if_pos e, if_pos e]; rfl
    · rw [if_neg e, if_neg e, withF_row s n r]; rfl
theorem letS_size (c : Nat) : (letS c).size ≤ 140737488355328 := by show (1 : Nat) ≤ _; omega
end Go.Proofs.YtdihelpimpkfoaaDoor
end
section
namespace Go.Proofs.YtdihelpimpkfoaaDoor
open Go.RowKit
open Seal
open Bson (Val)
section
variable {w : World} {base : Nat} {b : Value} {bs : List Nat}
set_option maxRecDepth 100000 in
set_option maxHeartbeats 2000000 in
theorem putV_doc (x : Val) (ba fa la : Option Addr) (bc fc lc : Nat) (res : List Nat) (hkd : x.kind = 6) (hb : Own8 w base b bs) (C : ∀ W, PutRel base w W → Own8 W base b bs → Calls Tryd.prog 14 #[b, .slice fa x.f.length fc] W (PutPost W base res)) :
    Calls Tryd.prog 34 #[b, agg x ba fa la bc fc lc] w (PutPost w base res) := by
  unfold agg
  rw [hkd]
  have HB := Lib.hid (hb.below ((Below.refl _ w).alloc (Nat.le_refl _) (.cells #[.int .i64 6, .int .i64 x.n, .string x.s, .slice ba x.b.length bc, .slice fa x.f.length fc, .slice la x.l.length lc] 28)))
  have HR := Lib.hid (PutRel.new ((Below.refl _ w).alloc (Nat.le_refl _) (.cells #[.int .i64 6, .int .i64 x.n, .string x.s, .slice ba x.b.length bc, .slice fa x.f.length fc, .slice la x.l.length lc] 28)) hb.sz)
  have CD := Lib.hid (C _ HR.out HB.out)
  clear hkd hb C
  go_enter Tryd.func34, Tryd.ntmps34
  go_wp2_with fail
  refine CD.out.mono ?_
  rintro e w2 ⟨v2, rfl, hO2, hR2⟩
  have HO2 := Lib.hid hO2
  have HR2 := Lib.hid (HR.out.trans hR2)
  clear hO2 hR2
  go_wp2_with fail
  go_ret
  exact ⟨v2, rfl, HO2.out, HR2.out⟩
set_option maxRecDepth 100000 in
set_option maxHeartbeats 2000000 in
theorem putV_list (x : Val) (ba fa la : Option Addr) (bc fc lc : Nat) (res : List Nat) (hkd : x.kind = 7) (hb : Own8 w base b bs) (C : ∀ W, PutRel base w W → Own8 W base b bs → Calls Tryd.prog 41 #[b, .slice la x.l.length lc] W (PutPost W base res)) :
    Calls Tryd.prog 34 #[b, agg x ba fa la bc fc lc] w (PutPost w base res) := by
  unfold agg
  rw [hkd]
  have HB := Lib.hid (hb.below ((Below.refl _ w).alloc (Nat.le_refl _) (.cells #[.int .i64 7, .int .i64 x.n, .string x.s, .slice ba x.b.length bc, .slice fa x.f.length fc, .slice la x.l.length lc] 28)))
  have HR := Lib.hid (PutRel.new ((Below.refl _ w).alloc (Nat.le_refl _) (.cells #[.int .i64 7, .int .i64 x.n, .string x.s, .slice ba x.b.length bc, .slice fa x.f.length fc, .slice la x.l.length lc] 28)) hb.sz)
  have CD := Lib.hid (C _ HR.out HB.out)
  clear hkd hb C
  go_enter Tryd.func34, Tryd.ntmps34
  go_wp2_with fail
  refine CD.out.mono ?_
  rintro e w2 ⟨v2, rfl, hO2, hR2⟩
  have HO2 := Lib.hid hO2
  have HR2 := Lib.hid (HR.out.trans hR2)
  clear hO2 hR2
  go_wp2_with fail
  go_ret
  exact ⟨v2, rfl, HO2.out, HR2.out⟩
end
theorem putVal_all : ∀ d, PutVal d := by
  have sc : ∀ (Q : Nat → Prop) (h : Nat) (x : Val) (v : Value) (w : World) (base : Nat) (b : Value) (bs xs : List Nat), VIn w Q h x v → (∀ g, Q g → g < base) → Own8 w base b bs → Bson.scalar x = some xs → bs.length + xs.length ≤ 900000 → Calls Tryd.prog 34 #[b, v] w (PutPost w base (bs ++ xs)) := by
    intro Q h x v w base b bs xs hv hQ hb he hl
    cases h with
    | zero => exact hv.elim
    | succ h =>
    obtain ⟨ba, fa, la, bc, fc, lc, rfl, -⟩ := id hv
    obtain ⟨-, -, -, -, hB, -, -⟩ := VIn.parts hv
    rcases Bson.scalar_parts he with ⟨hk, rfl⟩ | ⟨hk, rfl⟩ | ⟨hk, rfl⟩ | ⟨hk, rfl⟩ | ⟨hk, rfl⟩ | ⟨hk, rfl⟩ | ⟨hk, rfl⟩
    · rw [List.append_nil]
      exact putV_none x ba fa la bc fc lc x.kind rfl hk hb
    · exact putV_num x ba fa la bc fc lc 3 4 hk (.inl ⟨rfl, rfl⟩) hb (by omega)
    · rcases hk with hk | hk
      · exact putV_num x ba fa la bc fc lc 4 8 hk (.inr (.inl ⟨rfl, rfl⟩)) hb (by omega)
      · exact putV_num x ba fa la bc fc lc 11 8 hk (.inr (.inr (.inl ⟨rfl, rfl⟩))) hb (by omega)
    · exact putV_num x ba fa la bc fc lc 10 1 hk (.inr (.inr (.inr ⟨rfl, rfl⟩))) hb (by omega)
    · exact putV_text x ba fa la bc fc lc hk hb (by simp [Bson.leI_length, Bson.bytes_length] at hl; omega)
    · exact putV_bytes Q x ba fa la bc fc lc hk hB hQ hb (by simp [Bson.leI_length] at hl; omega)
    · exact putV_id Q x ba fa la bc fc lc hk hB hQ hb hl
  intro d
  induction d with
  | zero => exact fun Q h x v w base b bs xs hv hQ hb he hl _ => sc Q h x v w base b bs xs hv hQ hb he hl
  | succ d IH =>
    intro Q h x v w base b bs xs hv hQ hb he hl hT
    by_cases h6 : x.kind = 6
    · cases h with
      | zero => exact hv.elim
      | succ h =>
      obtain ⟨ba, fa, la, bc, fc, lc, rfl, -⟩ := id hv
      obtain ⟨hL, -, -, -, -, hF, -⟩ := VIn.parts hv
      rw [Bson.enc_doc d x h6] at he
      split at he
      · cases hr : Bson.row (Bson.enc d) x.f with
        | none => rw [hr] at he; cases he
        | some r =>
          rw [hr] at he
          obtain rfl : Bson.wrap r = xs := Option.some.inj he
          refine putV_doc x ba fa la bc fc lc _ h6 hb (fun W hR hO => putDoc_any d IH Q h fa x.f.length fc x.f W base b bs r rfl hL.f (hF.kept (fun g hg _ => hR.below.block g (hQ g hg)) (fun _ z => z) (fun _ _ z => VIn.based z hQ hR.below)) hQ hO hr ?_ (fun W' hb' => hT W' (hR.below.trans hb')))
          simp [Bson.wrap, Bson.leI_length] at hl; omega
      · cases he
    · by_cases h7 : x.kind = 7
      · cases h with
        | zero => exact hv.elim
        | succ h =>
        obtain ⟨ba, fa, la, bc, fc, lc, rfl, -⟩ := id hv
        obtain ⟨hL, -, -, -, -, -, hI⟩ := VIn.parts hv
        rw [Bson.enc_list d x h7] at he
        split at he
        · cases hr : Bson.row (Bson.enc d) (Bson.named x.l) with
          | none => rw [hr] at he; cases he
          | some r =>
            rw [hr] at he
            obtain rfl : Bson.wrap r = xs := Option.some.inj he
            refine putV_list x ba fa la bc fc lc _ h7 hb (fun W hR hO => putList_any d IH Q h la x.l.length lc x.l W base b bs r rfl hL.l (hI.kept (fun g hg _ => hR.below.block g (hQ g hg)) (fun _ z => z) (fun _ _ z => VIn.based z hQ hR.below)) hQ hO hr ?_ (fun W' hb' => hT W' (hR.below.trans hb')))
            simp [Bson.wrap, Bson.leI_length] at hl; omega
        · cases he
      · rw [Bson.enc_other _ x h6 h7] at he
        exact sc Q h x v w base b bs xs hv hQ hb he hl
end Go.Proofs.YtdihelpimpkfoaaDoor
end
section
namespace Go.Proofs.YtdihelpimpkfoaaDoor
open Go.RowKit
open Seal
open Bson (Val)
def EInv (w : World) (n : Nat) (fv : Value) (cs : Array Value) (l : List Nat) (D : Nat → Bool) (V : Nat → Value) (W : World) : Prop :=
  Below w.heap.size w W ∧ W.heap[w.heap.size]? = some (.cells cs 28 (0, 0)) ∧ (D 0 = true → V 0 = .int .i64 n) ∧ (D 1 = true → D 4 = false → Own8 W w.heap.size (V 1) []) ∧ (D 2 = true → V 2 = .pointer (some ⟨w.heap.size, 4, none⟩)) ∧ (D 3 = true → V 3 = fv) ∧ (D 4 = true → Own8 W w.heap.size (V 4) l) ∧
    (D 5 = true → V 5 = V 4) ∧ (D 6 = true → V 6 = .int .i64 0) ∧ (D 4 = true → D 1 = true) ∧ (D 5 = true → D 4 = true)
theorem sizeB_some {x : Val} {l : List Nat} (h : docB x = some l) : sizeB x = l.length := by unfold sizeB; rw [h]
theorem sizeB_none {x : Val} (h : docB x = none) : sizeB x = 0 := by unfold sizeB; rw [h]
theorem docB_parts {x : Val} {l : List Nat} (h : docB x = some l) : x.kind = 6 ∧ Bson.enc 32 x = some l ∧ l.length ≤ 65536 ∧ ∃ r, Bson.row (Bson.enc 31) x.f = some r ∧ l = Bson.wrap r := by
  unfold docB at h
  split at h
  · rename_i h6
    cases he : Bson.enc 32 x with
    | none => rw [he] at h; cases h
    | some l2 =>
      rw [he] at h
      by_cases hl : l2.length ≤ 65536
      · have h2 : (if l2.length ≤ 65536 then some l2 else none) = some l := h
        rw [if_pos hl] at h2
        obtain rfl := Option.some.inj h2
        refine ⟨h6, rfl, hl, ?_⟩
        have he2 := he
        rw [Bson.enc_doc 31 x h6] at he2
        split at he2
        · cases hr : Bson.row (Bson.enc 31) x.f with
          | none => rw [hr] at he2; cases he2
          | some r => rw [hr] at he2; exact ⟨r, rfl, (Option.some.inj he2).symm⟩
        · cases he2
      · have h2 : (if l2.length ≤ 65536 then some l2 else none) = some l := h
        rw [if_neg hl] at h2; cases h2
  · cases h
theorem may_some {x : Val} : (0 < sizeB x) ↔ (docB x).isSome = true := by
  cases h : docB x with
  | none => rw [sizeB_none h]; simp
  | some l =>
    rw [sizeB_some h]
    obtain ⟨_, _, _, r, _, rfl⟩ := docB_parts h
    have : (Bson.wrap r).length = 4 + (r.length + 1) := by simp [Bson.wrap, Bson.leI_length]
    rw [this]
    exact ⟨fun _ => rfl, fun _ => by omega⟩
set_option maxRecDepth 100000 in
set_option maxHeartbeats 2000000 in
theorem encode_ok (Q : Nat → Prop) (h : Nat) (x : Val) (v : Value) (w : World) (l : List Nat) (hv : VIn w Q h x v) (hQ : ∀ g, Q g → g < w.heap.size) (hT : Tabs w) (hl : docB x = some l) :
    Calls Tryd.prog 8 #[v] w fun e w' => ∃ v', e = .returned (.tuple #[v', .int .i64 0]) ∧ Own8 w' w.heap.size v' l ∧ Below w.heap.size w w' := by
  cases h with
  | zero => exact hv.elim
  | succ h =>
  obtain ⟨i0, hi, hz0, hz1, hz2⟩ := info_parts infoU8
  obtain ⟨ba, fa, la, bc, fc, lc, rfl, -⟩ := id hv
  obtain ⟨hL, -, -, -, -, hF, -⟩ := VIn.parts hv
  obtain ⟨h6, -, hlen, r, hr, hw⟩ := docB_parts hl
  have CS : Hid (∀ W, Below w.heap.size w W → Calls Tryd.prog 10 #[agg x ba fa la bc fc lc] W fun e w' => e = .returned (.int .i64 (l.length : Int)) ∧ Below W.heap.size W w') := fun W hb => by
    have h1 := size_any Q (h + 1) x _ W (VIn.keep hb hv) (hT.below hb)
    rw [sizeB_some hl] at h1
    exact h1
  have CD : Hid (∀ W vv, Below w.heap.size w W → Own8 W w.heap.size vv [] → Calls Tryd.prog 14 #[vv, .slice fa x.f.length fc] W (PutPost W w.heap.size l)) := fun W vv hb hO => by
    have h1 := putDoc_any 31 (putVal_all 31) Q h fa x.f.length fc x.f W w.heap.size vv [] r rfl hL.f (hF.kept (Kept.of_below hb) (fun _ z => z) (fun _ _ z => VIn.keep hb z)) hQ hO hr (by rw [hw] at hlen; simp [Bson.wrap, Bson.leI_length] at hlen; simp; omega) (fun W' hb' => (hT.below (hb.trans hb')).p10)
    rw [List.nil_append, ← hw] at h1
    exact h1
  obtain ⟨n, hn⟩ : ∃ n, n = l.length := ⟨_, rfl⟩
  have hn0 : 0 < n := by
    have : (Bson.wrap r).length = 4 + (r.length + 1) := by simp [Bson.wrap, Bson.leI_length]
    rw [hn, hw, this]; omega
  rw [← hn] at CS hlen
  unfold agg at CS ⊢
  rw [h6] at CS ⊢
  have HL := Lib.hid hn
  clear hv hQ hT hl hL hF hr hw hn h6
  have HX : Hid ((w.alloc (.cells #[.int .i64 6, .int .i64 x.n, .string x.s, .slice ba x.b.length bc, .slice fa x.f.length fc, .slice la x.l.length lc] 28)).heap[w.heap.size]? = some (.cells #[.int .i64 6, .int .i64 x.n, .string x.s, .slice ba x.b.length bc, .slice fa x.f.length fc, .slice la x.l.length lc] 28 (0, 0))) := heap_alloc_new w _
  have HB : Hid (Below w.heap.size w (w.alloc (.cells #[.int .i64 6, .int .i64 x.n, .string x.s, .slice ba x.b.length bc, .slice fa x.f.length fc, .slice la x.l.length lc] 28))) := (Below.refl _ w).alloc (Nat.le_refl _) _
  have CS1 := Lib.hid (CS.out _ HB.out)
  have hnz : ((n : Int) == 0) = false := by rw [beq_eq_false_iff_ne]; omega
  have hnz2 : ¬ (n : Int) = 0 := by omega
  go_enter Tryd.func8, Tryd.ntmps8
  go_wp2_with fail
  refine CS1.out.mono ?_
  rintro e w2 ⟨rfl, hb2⟩
  have HX2 := Lib.hid ((hb2.block _ (Array.getElem?_eq_some_iff.1 HX.out).1).trans HX.out)
  have HB2 := Lib.hid (HB.out.trans (hb2.mono HB.out.size))
  clear hb2
  go_upto_region 4 with fail
  refine wp_region_inv (fun V => { tmps := #[Value.agg #[.int .i64 6, .int .i64 x.n, .string x.s, .slice ba x.b.length bc, .slice fa x.f.length fc, .slice la x.l.length lc], .pointer (some ⟨w.heap.size, 0, none⟩), V 5, V 6, .int .i64 n, .agg #[.int .i64 6, .int .i64 x.n, .string x.s, .slice ba x.b.length bc, .slice fa x.f.length fc, .slice la x.l.length lc], .int .i64 n, .int .i64 n, .bool false, V 0, V 1, V 2, V 3, V 4], defers := [] }) (EInv w n (.slice fa x.f.length fc) #[.int .i64 6, .int .i64 x.n, .string x.s, .slice ba x.b.length bc, .slice fa x.f.length fc, .slice la x.l.length lc] l) (by kernel_rfl) (by kernel_rfl) (by kernel_rfl) (fun V => by kernel_rfl) ?_ (fun V => ⟨⟨HB2.out.os, HB2.out.tape, HB2.out.output, HB2.out.size, HB2.out.block⟩, HX2.out, nofun, nofun, nofun, nofun, nofun, nofun, nofun, nofun, nofun⟩) ?_
  · refine ⟨?_, ?_⟩
    · refine inv_free rfl (fun D V w5 hDi hpre hI K hK => ?_)
      have hpre := hpre.out
      obtain ⟨p, bx, h0, h1, h2, h3, h4, h5, h6, h41, h54⟩ := hI
      go_simp
      exact put_is (by kernel_rfl) (hK.out (.int .i64 n) w5 ⟨p, bx, fun _ => rfl, h1, h2, h3, h4, h5, h6, h41, h54⟩)
    refine ⟨?_, ?_⟩
    · refine inv_free rfl (fun D V w5 hDi hpre hI K hK => ?_)
      have hpre := hpre.out
      obtain ⟨p, bx, h0, h1, h2, h3, h4, h5, h6, h41, h54⟩ := hI
      have e0 := h0 (hpre 0 (by kernel_rfl))
      obtain ⟨w6, hr, ho, hg⟩ := run_make_own (P := Tryd.prog) (w := w5) w.heap.size 22 5 i0 (.int .u8 0) 1 Tryd.underlying22 hi hz0 hz1 .i64 .i64 n (by rw [hz2]; omega) (by unfold maxLen; omega) p.size
      have hb6 : Below w5.heap.size w5 w6 := ⟨hg.os, hg.tape, hg.output, hg.size, fun j hj => hg.block j hj nofun⟩
      go_simp
      exact put_is (by rw [e0]; kernel_rfl) (hK.out (.slice (some ⟨w5.heap.size, 0, none⟩) 0 n) w6 ⟨p.trans (hb6.mono p.size), (hb6.block _ (Array.getElem?_eq_some_iff.1 bx).1).trans bx, h0, fun _ _ => ⟨ho, Nat.le_trans p.size hb6.size⟩, h2, h3, fun e => absurd (h41 e) (by rw [hDi]; decide), h5, h6, fun _ => rfl, h54⟩)
    refine ⟨?_, ?_⟩
    · refine inv_free rfl (fun D V w5 hDi hpre hI K hK => ?_)
      have hpre := hpre.out
      obtain ⟨p, bx, h0, h1, h2, h3, h4, h5, h6, h41, h54⟩ := hI
      go_simp
      exact put_is (by kernel_rfl) (hK.out (.pointer (some ⟨w.heap.size, 4, none⟩)) w5 ⟨p, bx, h0, h1, fun _ => rfl, h3, h4, h5, h6, h41, h54⟩)
    refine ⟨?_, ?_⟩
    · refine inv_free rfl (fun D V w5 hDi hpre hI K hK => ?_)
      have hpre := hpre.out
      obtain ⟨p, bx, h0, h1, h2, h3, h4, h5, h6, h41, h54⟩ := hI
      have c4 := cell_of_row _ _ 4 _ _ _ bx
      have e2 := h2 (hpre 2 (by kernel_rfl))
      go_simp
      exact put_is (by rw [e2]; kernel_rfl) (hK.out (.slice fa x.f.length fc) w5 ⟨p, bx, h0, h1, h2, fun _ => rfl, h4, h5, h6, h41, h54⟩)
    refine ⟨?_, ?_⟩
    · refine inv_free rfl (fun D V w5 hDi hpre hI K hK => ?_)
      have hpre := hpre.out
      obtain ⟨p, bx, h0, h1, h2, h3, h4, h5, h6, h41, h54⟩ := hI
      have e1 := h1 (hpre 1 (by kernel_rfl))
      have e3 := h3 (hpre 3 (by kernel_rfl))
      go_simp
      go_at_call 14
      refine (CD.out w5 _ p (e1 hDi)).mono ?_
      rintro e w6 ⟨v6, rfl, hO6, hR6⟩
      exact put_is (by rw [e3]; kernel_rfl) (hK.out v6 w6 ⟨p.trans hR6.below, hR6.keep _ _ _ _ (by decide) bx, h0, fun _ e => absurd (show true = false from e) (by decide), h2, h3, fun _ => hO6, fun e => absurd (h54 e) (by rw [hDi]; decide), h6, fun _ => hpre 1 (by kernel_rfl), fun _ => rfl⟩)
    refine ⟨?_, ?_⟩
    · refine inv_free rfl (fun D V w5 hDi hpre hI K hK => ?_)
      have hpre := hpre.out
      obtain ⟨p, bx, h0, h1, h2, h3, h4, h5, h6, h41, h54⟩ := hI
      go_simp
      exact put_is (by kernel_rfl) (hK.out (V 4) w5 ⟨p, bx, h0, h1, h2, h3, h4, fun _ => rfl, h6, h41, fun _ => hpre 4 (by kernel_rfl)⟩)
    refine ⟨?_, ?_⟩
    · refine inv_free rfl (fun D V w5 hDi hpre hI K hK => ?_)
      have hpre := hpre.out
      obtain ⟨p, bx, h0, h1, h2, h3, h4, h5, h6, h41, h54⟩ := hI
      go_simp
      exact put_is (by kernel_rfl) (hK.out (.int .i64 0) w5 ⟨p, bx, h0, h1, h2, h3, h4, h5, fun _ => rfl, h41, h54⟩)
    trivial
  intro D V w4 hD hI
  obtain ⟨p, -, -, -, -, -, h4, h5, h6, -, -⟩ := hI
  have e5 := h5 (hD 5 (by decide))
  have e6 := h6 (hD 6 (by decide))
  have HO := Lib.hid (h4 (hD 4 (by decide)))
  have HP := Lib.hid p
  rw [e5, e6]
  clear h4 h5 h6 hD p e5 e6
  go_wp2_with fail
  go_ret2
  exact ⟨_, rfl, HO.out, HP.out⟩
set_option maxRecDepth 100000 in
set_option maxHeartbeats 2000000 in
theorem encode_no (Q : Nat → Prop) (h : Nat) (x : Val) (v : Value) (w : World) (hv : VIn w Q h x v) (hT : Tabs w) (hl : docB x = none) :
    Calls Tryd.prog 8 #[v] w fun e w' => e = .returned (.tuple #[.slice none 0 0, .int .i64 1]) ∧ Below w.heap.size w w' := by
  have hv' := hv
  cases h with
  | zero => exact hv.elim
  | succ h =>
  obtain ⟨ba, fa, la, bc, fc, lc, rfl, -⟩ := hv'
  have CS := Lib.hid (fun W (hb : Below w.heap.size w W) => size_any Q (h + 1) x _ W (VIn.keep hb hv) (hT.below hb))
  rw [sizeB_none hl] at CS
  unfold agg at CS ⊢
  have HB := Lib.hid ((Below.refl w.heap.size w).alloc (Nat.le_refl _) (.cells #[.int .i64 x.kind, .int .i64 x.n, .string x.s, .slice ba x.b.length bc, .slice fa x.f.length fc, .slice la x.l.length lc] 28))
  have CS1 := Lib.hid (CS.out _ HB.out)
  clear hv hT hl
  go_enter Tryd.func8, Tryd.ntmps8
  go_wp2_with fail
  refine CS1.out.mono ?_
  rintro e w2 ⟨rfl, hb2⟩
  have HB2 := Lib.hid (HB.out.trans (hb2.mono HB.out.size))
  clear hb2
  go_wp2_with fail
  go_ret2
  exact ⟨rfl, HB2.out⟩
set_option maxRecDepth 100000 in
theorem may_any (Q : Nat → Prop) (h : Nat) (x : Val) (v : Value) (w : World) (hv : VIn w Q h x v) (hT : Tabs w) :
    Calls Tryd.prog 7 #[v] w fun e w' => e = .returned (.bool (docB x).isSome) ∧ Below w.heap.size w w' := by
  have hv' := hv
  cases h with
  | zero => exact hv.elim
  | succ h =>
  obtain ⟨ba, fa, la, bc, fc, lc, rfl, -⟩ := hv'
  have CS := fun W (hb : Below w.heap.size w W) => size_any Q (h + 1) x _ W (VIn.keep hb hv) (hT.below hb)
  have hs : decide (0 < sizeB x) = (docB x).isSome := by
    rw [Bool.eq_iff_iff, decide_eq_true_eq]
    constructor
    · intro h1; exact may_some.1 h1
    · intro h1; exact may_some.2 h1
  generalize sizeB x = sz at CS hs
  have HS := Lib.hid hs
  unfold agg at CS ⊢
  have HB := Lib.hid ((Below.refl w.heap.size w).alloc (Nat.le_refl _) (.cells #[.int .i64 x.kind, .int .i64 x.n, .string x.s, .slice ba x.b.length bc, .slice fa x.f.length fc, .slice la x.l.length lc] 28))
  have CS1 := Lib.hid (CS _ HB.out)
  clear hv hT hs CS
  go_enter Tryd.func7, Tryd.ntmps7
  go_wp2_with fail
  refine CS1.out.mono ?_
  rintro e w2 ⟨rfl, hb2⟩
  have HB2 := Lib.hid (HB.out.trans (hb2.mono HB.out.size))
  clear hb2
  go_wp2_with fail
  go_ret
  exact ⟨ret_eq (by rw [← HS.out]; rfl), HB2.out⟩
end Go.Proofs.YtdihelpimpkfoaaDoor
end
