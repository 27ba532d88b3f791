/- BsonFMem. -/
import Derived.Test.YtdihelpimpkfoaaDoorMg11
import Derived.Test.YtdihelpimpkfoaaDoorMg28
import Derived.Test.YtdihelpimpkfoaaDoorMg32
import Derived.Test.YtdihelpimpkfoaaDoorMg13
import Derived.Test.YtdihelpimpkfoaaDoorMg12
import Derived.Test.YtdihelpimpkfoaaDoorMg29
import Derived.Test.YtdihelpimpkfoaaDoorMg30
import Derived.Test.YtdihelpimpkfoaaDoorMg20
set_option maxRecDepth 100000
section
namespace Go.Proofs.YtdihelpimpkfoaaDoor
open Go.RowKit
open Seal
open Bson (Val)
theorem infoFd : (Tryd.prog.info? 35).map (fun i => (i.zero, i.size, i.bytes)) = some (some (.agg #[.string ⟨#[]⟩, .int .i64 0, .int .i64 0, .string ⟨#[]⟩, .slice none 0 0, .slice none 0 0, .slice none 0 0]), 7, 120) := by kernel_rfl
theorem sevenNew (w : World) (c0 c1 c2 c3 c4 c5 c6 : Value) (t : TypeId) : ∀ j u, ([c0, c1, c2, c3, c4, c5, c6] : List Value)[j]? = some u → (w.alloc (.cells #[c0, c1, c2, c3, c4, c5, c6] t)).cell? (Addr.add ⟨w.heap.size, 0, none⟩ j) = some u := by
  intro j u hj
  have e : (Addr.add ⟨w.heap.size, 0, none⟩ j) = ⟨w.heap.size, j, none⟩ := by unfold Addr.add; split <;> simp_all
  rw [e, cell_of_row _ _ j _ _ _ (heap_alloc_new w _)]
  rw [← hj]; simp
theorem sevenOne (nm : ByteArray) (k n : Int) (s : ByteArray) (ba fa la : Option Addr) (bl bc fl fc ll lc : Nat) : ∀ u ∈ ([.string nm, .int .i64 k, .int .i64 n, .string s, .slice ba bl bc, .slice fa fl fc, .slice la ll lc] : List Value), u.oneCell' = true := by
  intro u hu
  simp only [List.mem_cons, List.not_mem_nil, or_false] at hu
  rcases hu with rfl | rfl | rfl | rfl | rfl | rfl | rfl <;> rfl
/-- A value reads on where its cells do. -/
theorem VIn.celled {w w' : World} {Q : Nat → Prop} (hc : ∀ g o v, Q g → w.cell? ⟨g, o, none⟩ = some v → w'.cell? ⟨g, o, none⟩ = some v) : ∀ {h : Nat} {x : Val} {v : Value}, VIn w Q h x v → VIn w' Q h x v
  | 0, _, _, h => h.elim
  | h + 1, _, _, ⟨ba, fa, la, bc, fc, lc, e, h1, h2, h3, h4, h5, h6, h7⟩ => by
    have six : ∀ {g p : Nat} {v : Value}, Q g → SixAt w g p v → SixAt w' g p v := fun {g p v} hq hs => by
      obtain ⟨c0, c1, c2, c3, c4, c5, e, k0, k1, k2, k3, k4, k5⟩ := hs
      exact ⟨c0, c1, c2, c3, c4, c5, e, hc _ _ _ hq k0, hc _ _ _ hq k1, hc _ _ _ hq k2, hc _ _ _ hq k3, hc _ _ _ hq k4, hc _ _ _ hq k5⟩
    refine ⟨ba, fa, la, bc, fc, lc, e, h1, h2, h3, h4, ?_, ?_, ?_⟩
    · rcases h5 with h | ⟨g, o, e, hq, h⟩
      · exact .inl h
      · exact .inr ⟨g, o, e, hq, fun j hj => hc _ _ _ hq (h j hj)⟩
    · rcases h6 with h | ⟨g, o, e, hq, h⟩
      · exact .inl h
      · refine .inr ⟨g, o, e, hq, fun i hi => ?_⟩
        obtain ⟨k1, k2, v, k3, k4⟩ := h i hi
        exact ⟨hc _ _ _ hq k1, k2, v, six hq k3, VIn.celled hc k4⟩
    · rcases h7 with h | ⟨g, o, e, hq, h⟩
      · exact .inl h
      · refine .inr ⟨g, o, e, hq, fun i hi => ?_⟩
        obtain ⟨v, k3, k4⟩ := h i hi
        exact ⟨v, six hq k3, VIn.celled hc k4⟩
section
variable {w w' : World} {base : Nat} {v v' : Value} {QA : Nat → Prop} {h : Nat} {ys : List (ByteArray × Val)} {xs : List Value}
theorem FAcc.up (ha : FAcc w base v QA h ys xs) {h' : Nat} (hh : h ≤ h') : FAcc w base v QA h' ys xs :=
  ⟨ha.own, fun i hi => by
    obtain ⟨hn, hs, c0, c1, c2, c3, c4, c5, h0, h1, h2, h3, h4, h5, hv⟩ := ha.at' i hi
    exact ⟨hn, hs, c0, c1, c2, c3, c4, c5, h0, h1, h2, h3, h4, h5, hv.up hh⟩⟩
/-- The row's own block is one of fields. -/
theorem FAcc.block (ha : FAcc w base v QA h ys xs) {g : Nat} (hg : v.ownBlock = some g) : ∃ cs, w.heap[g]? = some (.cells cs 35 (0, 0)) := by
  rcases ha.own.2 with ⟨rfl, _⟩ | ⟨g2, cap, cur, rfl, _, h2, _⟩
  · cases hg
  · obtain rfl : g2 = g := Option.some.inj hg
    exact ⟨cur, h2⟩
/-- What the reader, a set of names write leaves the row of fields. -/
theorem FAcc.celled (ha : FAcc w base v QA h ys xs) (hb : ∀ g, v.ownBlock = some g → w'.heap[g]? = w.heap[g]?) (hc : ∀ g o u, QA g ∧ v.ownBlock ≠ some g → w.cell? ⟨g, o, none⟩ = some u → w'.cell? ⟨g, o, none⟩ = some u) : FAcc w' base v QA h ys xs := by
  refine ⟨?_, fun i hi => ?_⟩
  · refine ⟨ha.own.1, ?_⟩
    rcases ha.own.2 with h0 | ⟨g2, cap, cur, e, h1, h2, h3⟩
    · exact .inl h0
    · exact .inr ⟨g2, cap, cur, e, h1, (hb g2 (by rw [e]; rfl)).trans h2, h3⟩
  · obtain ⟨hn, hs, c0, c1, c2, c3, c4, c5, h0, h1, h2, h3, h4, h5, hv⟩ := ha.at' i hi
    exact ⟨hn, hs, c0, c1, c2, c3, c4, c5, h0, h1, h2, h3, h4, h5, VIn.celled hc hv⟩
theorem FAcc.grown {gr : Nat} (ha : FAcc w base v QA h ys xs) (hg : w.grownBy w' (some gr)) (hq : ∀ g, QA g → g ≠ gr) (hb : gr < base) : FAcc w' base v QA h ys xs :=
  ha.celled (fun g e => hg.block g (ha.own.lt g e).2 (fun e2 => by have := (ha.own.lt g e).1; have := Option.some.inj e2; omega))
    (fun g o u hqq hc => (World.cell?_of_block (a := ⟨g, o, none⟩) (hg.block g (World.block_lt_of_cell? w _ hc) (fun e2 => hq g hqq.1 (Option.some.inj e2)))).trans hc)
theorem FAcc.held {gn : Nat} (ha : FAcc w base v QA h ys xs) (hm : HMove gn w w') (hgn : ∃ u, w.heap[gn]? = some (.cells #[u] 84 (0, 0))) (hq : ∀ g, QA g → g ≠ gn) : FAcc w' base v QA h ys xs := by
  have hne : ∀ g, v.ownBlock = some g → g ≠ gn := fun g e e2 => by
    obtain ⟨cs, h1⟩ := ha.block e
    obtain ⟨u, h2⟩ := hgn
    rw [e2, h2] at h1
    injection h1 with h1
    injection h1 with _ h3 _
    exact absurd h3 (by decide)
  refine ha.celled (fun g e => ?_) (fun g o u hqq hc => hm.cell hc (hq g hqq.1))
  obtain ⟨cs, h1⟩ := ha.block e
  exact hm.2.2.2.2.1 g cs _ _ (hne g e) h1
end
theorem Nms.box {w : World} {gn : Nat} {f : List (ByteArray × Val)} (h : Nms w gn f) : ∃ u, w.heap[gn]? = some (.cells #[u] 84 (0, 0)) := by
  rcases h with h | ⟨bm, k, h, _⟩
  · exact ⟨_, h⟩
  · exact ⟨_, h⟩
theorem Nms.fielded {w w' : World} {gn : Nat} {f : List (ByteArray × Val)} {own : Option Nat} (h : Nms w gn f) (hg : w.grownBy w' own) (hf : ∀ g, own = some g → ∃ cs, w.heap[g]? = some (.cells cs 35 (0, 0))) : Nms w' gn f := by
  have hgn : w'.heap[gn]? = w.heap[gn]? := hg.block gn h.lt (fun e => by
    obtain ⟨cs, h1⟩ := hf gn e.symm
    obtain ⟨u, h2⟩ := h.box
    rw [h2] at h1
    injection h1 with h1
    injection h1 with _ h3 _
    exact absurd h3 (by decide))
  rcases h with h | ⟨bm, j, h1, h2, h3, es, clock, h4, h5⟩
  · exact .inl (hgn.trans h)
  · refine .inr ⟨bm, j, hgn.trans h1, h2, h3, es, clock, (hg.block bm (lt_of_heap h4) (fun e => ?_)).trans h4, h5⟩
    obtain ⟨cs, h6⟩ := hf bm e.symm
    rw [h4] at h6
    cases h6
theorem Nms.pushed {w : World} {gn : Nat} {f : List (ByteArray × Val)} (h : Nms w gn f) (p : ByteArray × Val) : Nms w gn (f ++ [p]) := by
  have h1 : Nms w gn ((f ++ [p]).take f.length) := by rw [List.take_left' rfl]; exact h
  have h2 := h1.more
  rwa [List.take_of_length_le (by simp)] at h2
/-- The reader stands beside what a set of names, a row of fields write. -/
theorem Rdr.beside {w w' : World} {gr bc k : Nat} {ba : Option Addr} {b : List Nat} (h : Rdr w gr ba bc b k) (hb : w'.heap[gr]? = w.heap[gr]?) (hc : ∀ g o (x : Nat), w.cell? ⟨g, o, none⟩ = some (.int .u8 (x : Int)) → w'.cell? ⟨g, o, none⟩ = some (.int .u8 (x : Int))) : Rdr w' gr ba bc b k := by
  refine ⟨hb.trans h.blk, ?_, h.le, h.len, h.cap, h.max, h.oct⟩
  rcases h.rd with h0 | ⟨g, o, e, h0⟩
  · exact .inl h0
  · exact .inr ⟨g, o, e, fun j hj => hc _ _ _ (h0 j hj)⟩
/-- A row of fields, as a result. -/
def FldV (L : Nat) (w : World) (f : List (ByteArray × Val)) (v : Value) : Prop := f.length ≤ 65536 ∧ ∃ h a c, v = .slice a f.length c ∧ (f.length ≤ c ∧ c ≤ 9223372036854775807) ∧ FieldsIn w (fun g => L ≤ g) (VIn w (fun g => L ≤ g) h) a f
def posOf (w : World) (gr : Nat) : Nat := match w.cell? ⟨gr, 1, none⟩ with | some (.int _ k) => k.toNat | _ => 0
theorem Rdr.pos {w : World} {gr bc k : Nat} {ba : Option Addr} {b : List Nat} (h : Rdr w gr ba bc b k) : posOf w gr = k := by unfold posOf; rw [h.c1]; simp
/-- What a method of the reader answers, by its result. -/
def RPost {α : Type} (z : Value) (V : World → α → Value → Prop) (w : World) (gr : Nat) (ba : Option Addr) (bc : Nat) (b : List Nat) (res : Bson.Res α) (e : Ending) (w' : World) : Prop :=
  match res with | .err n => ErrPost z w gr n e w' | .ok x r => OkPost V w gr ba bc b x r e w'
theorem Reads_.of {α : Type} {z : Value} {V : World → α → Value → Prop} {f : Nat} {args : Array Value} {w : World} {gr : Nat} {ba : Option Addr} {bc : Nat} {b : List Nat} {res : Bson.Res α} (h : Calls Tryd.prog f args w (RPost z V w gr ba bc b res)) : Reads_ z V f args w gr ba bc b res :=
  ⟨fun n e => by rw [e] at h; exact h, fun x r e => by rw [e] at h; exact h⟩
theorem Reads_.post {α : Type} {z : Value} {V : World → α → Value → Prop} {f : Nat} {args : Array Value} {w : World} {gr : Nat} {ba : Option Addr} {bc : Nat} {b : List Nat} {res : Bson.Res α} (h : Reads_ z V f args w gr ba bc b res) : Calls Tryd.prog f args w (RPost z V w gr ba bc b res) := by
  cases hr : res with
  | err n => exact h.err n hr
  | ok x r => exact h.ok x r hr
/-- What the loop over the fields holds. -/
structure FLoop (w : World) (gr : Nat) (ba : Option Addr) (bc : Nat) (b : List Nat) (k : Nat) (acc : List (ByteArray × Val)) (v : Value) (wr : World) : Prop where
  rd : Rdr wr gr ba bc b k
  fs : ∃ h xs, FAcc wr w.heap.size v (fun g => w.heap.size < g) h acc xs
  nm : Nms wr w.heap.size acc
  nd : (acc.map (·.1)).Nodup
  gw : w.grownBy wr (some gr)
  sz : w.heap.size < wr.heap.size
theorem FLoop.grown {w : World} {gr : Nat} {ba : Option Addr} {bc : Nat} {b : List Nat} {k k' : Nat} {acc : List (ByteArray × Val)} {v : Value} {wr w' : World} (h : FLoop w gr ba bc b k acc v wr) (hgr : gr < w.heap.size) (hg : wr.grownBy w' (some gr)) (hr : Rdr w' gr ba bc b k') : FLoop w gr ba bc b k' acc v w' := by
  obtain ⟨hh, xs, hf⟩ := h.fs
  exact ⟨hr, ⟨hh, xs, hf.grown hg (fun g hq e => by have h1 : w.heap.size < g := hq; omega) hgr⟩, h.nm.metered hg hgr, h.nd, grown_then h.gw hg, Nat.lt_of_lt_of_le h.sz hg.size⟩
end Go.Proofs.YtdihelpimpkfoaaDoor
end
