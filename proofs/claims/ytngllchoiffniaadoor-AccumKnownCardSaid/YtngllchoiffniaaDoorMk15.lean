/- BsonNms. -/
import Derived.Test.YtngllchoiffniaaDoorMk2
import Derived.Test.YtngllchoiffniaaDoorMk14
set_option maxRecDepth 100000
set_option maxHeartbeats 20000000
section
namespace Go.Proofs.YtngllchoiffniaaDoor
open Go.RowKit
open Seal
open Bson (Val)
theorem lt_of_heap {w : World} {g : Nat} {o : Obj} (h : w.heap[g]? = some o) : g < w.heap.size := by
 refine Nat.lt_of_not_le fun hge => ?_
 rw [Array.getElem?_eq_none hge] at h; cases h
theorem setNms_more (f : List (ByteArray × Val)) (k j : Nat) (hj : j ≤ k) : setNms (f.take (k + 1)) j = setNms (f.take k) j := by
 unfold setNms
 rw [List.take_take, List.take_take, Nat.min_eq_left (by omega), Nat.min_eq_left hj]
theorem Nms.more {w : World} {gn : Nat} {f : List (ByteArray × Val)} {k : Nat} (h : Nms w gn (f.take k)) : Nms w gn (f.take (k + 1)) := by
 rcases h with h | ⟨bm, j, h1, h2, h3, h4⟩
 ·exact .inl h
 ·rw [List.length_take] at h3
  exact .inr ⟨bm, j, h1, h2, by rw [List.length_take]; omega, by rw [setNms_more f k j (by omega)]; exact h4⟩
theorem Nms.metered {w w' : World} {gn gm : Nat} {f : List (ByteArray × Val)} (h : Nms w gn f) (hg : w.grownBy w' (some gm)) (hlt : gm < gn) : Nms w' gn f := by
 rcases h with h | ⟨bm, j, h1, h2, h3, es, clock, h4, h5⟩
 ·exact .inl ((hg.block gn (lt_of_heap h) (fun e => by have := Option.some.inj e; omega)).trans h)
 ·exact .inr ⟨bm, j, (hg.block gn (lt_of_heap h1) (fun e => by have := Option.some.inj e; omega)).trans h1, h2, h3, es, clock, (hg.block bm (lt_of_heap h4) (fun e => by have := Option.some.inj e; omega)).trans h4, h5⟩
theorem FieldsIn.pre {w : World} {Q : Nat → Prop} {V : Val → Value → Prop} {a : Option Addr} {f : List (ByteArray × Val)} (h : FieldsIn w Q V a f) (k : Nat) : FieldsIn w Q V a (f.take k) := by
 rcases h with h | ⟨g, o, e, hq, h⟩
 ·exact .inl (by rw [h, List.take_nil])
 ·refine .inr ⟨g, o, e, hq, fun i hi => ?_⟩
  have hi' : i < f.length := by rw [List.length_take] at hi; omega
  have := h i hi'
  rw [List.getElem_take]
  exact this
theorem hmove_grown {w0 w w' : World} {gn gm : Nat} (hg : w0.grownBy w (some gm)) (h : HMove gn w w') (hgn : w0.heap.size ≤ gn) : w0.grownBy w' (some gm) := by
 obtain ⟨h1, h2, h3, h4, _, h6⟩ := h
 exact ⟨h1.trans hg.os, h2.trans hg.tape, h3.trans hg.output, Nat.le_trans hg.size h4, fun g hlt hne => (h6 g (by omega)).trans (hg.block g hlt hne)⟩
theorem hmove_mtr {w w' : World} {gn gm : Nat} {left : Int} (hM : Mtr w gm left) (h : HMove gn w w') (hlt : gm < gn) : Mtr w' gm left := (h.2.2.2.2.2 gm hlt).trans hM
theorem hmove_block {w w' : World} {gn g : Nat} {cs : Array Value} {t : TypeId} {fr : Nat × Nat} (h : HMove gn w w') (hg : w.heap[g]? = some (.cells cs t fr)) (hne : g ≠ gn) : w'.heap[g]? = some (.cells cs t fr) := (h.2.2.2.2.1 g cs t fr hne hg).trans hg
theorem hasName_take {f : List (ByteArray × Val)} {k : Nat} (hk : k < f.length) (hd : ((f.take k).map (·.1)).Nodup) :
  (hasName (f.take k) f[k].1 = true → ¬ (f.map (·.1)).Nodup) ∧ (hasName (f.take k) f[k].1 = false → ((f.take (k + 1)).map (·.1)).Nodup) := by
 have hmem : hasName (f.take k) f[k].1 = true ↔ f[k].1 ∈ (f.take k).map (·.1) := by
  unfold hasName
  rw [List.any_eq_true, List.mem_map]
  constructor
  ·rintro ⟨p, h1, h2⟩; exact ⟨p, h1, by simpa using h2⟩
  ·rintro ⟨p, h1, h2⟩; exact ⟨p, h1, by simpa using h2⟩
 have hsucc : (f.take (k + 1)).map (·.1) = (f.take k).map (·.1) ++ [f[k].1] := by
  rw [List.take_succ_eq_append_getElem hk, List.map_append]; rfl
 constructor
 ·intro h hn
  have h1 := hmem.1 h
  have h2 : ((f.take (k + 1)).map (·.1)).Nodup := by
   rw [List.map_take]; exact hn.sublist (List.take_sublist _ _)
  rw [hsucc, List.nodup_append] at h2
  exact h2.2.2 _ h1 _ (List.mem_singleton.2 rfl) rfl
 ·intro h
  rw [hsucc, List.nodup_append]
  refine ⟨hd, by simp, fun a ha b hb => ?_⟩
  rw [List.mem_singleton.1 hb]
  rintro rfl
  rw [hmem.2 ha] at h; cases h
def rowB (d : Nat) (f : List (ByteArray × Val)) : Option (List Nat) := if (f.map (·.1)).Nodup then Bson.row (Bson.enc d) f else none
theorem enc_doc_row (d : Nat) (x : Val) (hk : x.kind = 6) : Bson.enc (d + 1) x = wrapB x (rowB d x.f) := by
 rw [Bson.enc_doc d x hk]
 unfold wrapB rowB
 have e : bareB x = Bson.bare x false false false true false := by unfold bareB; rw [hk]; rfl
 rw [e]
 cases Bson.bare x false false false true false
 ·rfl
 ·by_cases hn : (x.f.map (·.1)).Nodup
  ·simp [hn]
  ·simp [hn]
theorem enc_list_row (d : Nat) (x : Val) (hk : x.kind = 7) : Bson.enc (d + 1) x = wrapB x (Bson.row (Bson.enc d) (Bson.named x.l)) := by
 rw [Bson.enc_list d x hk]
 unfold wrapB
 have e : bareB x = Bson.bare x false false false false true := by unfold bareB; rw [hk]; rfl
 rw [e]
theorem enc_none (x : Val) (hk : x.kind = 6 ∨ x.kind = 7) : Bson.enc 0 x = none := by
 rw [Bson.enc]
 unfold Bson.scalar Bson.scalarP
 rcases hk with h | h <;> simp [h]
end Go.Proofs.YtngllchoiffniaaDoor
end
