/- PathWithMem, RefFOut, PathWithWalk. -/
import Derived.OwnWalk
import Derived.IntWalk
import Derived.Deep.AppendSrc
import Derived.Test.YtdcfddiicclpeaaDoorMg30
import Derived.Test.YtdcfddiicclpeaaDoorMg6
set_option maxRecDepth 100000
section
namespace Go.Proofs.YtdcfddiicclpeaaDoor
open Go.RowKit
open Seal
open Bson (Val)
theorem IsBox.set4 {W : World} {n : Nat} {c0 c1 c2 c3 c4 c5 : Value} (h : IsBox W n c0 c1 c2 c3 c4 c5) (d : Value) : IsBox (W.setCell ⟨n, 4, none⟩ d) n c0 c1 c2 c3 d c5 := by
  unfold IsBox
  rw [heap_setCell_same W n 4 _ _ _ h]
  simp
theorem IsBox.setO {W : World} {n m : Nat} {c0 c1 c2 c3 c4 c5 : Value} (h : IsBox W n c0 c1 c2 c3 c4 c5) (hm : n ≠ m) (o : Nat) (d : Value) : IsBox (W.setCell ⟨m, o, none⟩ d) n c0 c1 c2 c3 c4 c5 :=
  (heap_setCell_other W ⟨m, o, none⟩ n d hm).trans h
theorem IsBox.new4 (w : World) (o1 o2 o3 : Obj) (c0 c1 c2 c3 c4 c5 : Value) : IsBox ((((w.alloc o1).alloc o2).alloc o3).alloc (.cells #[c0, c1, c2, c3, c4, c5] 26)) (w.heap.size + 3) c0 c1 c2 c3 c4 c5 := by
  have := IsBox.new (((w.alloc o1).alloc o2).alloc o3) c0 c1 c2 c3 c4 c5
  simpa using this
/-- The boxes of With, and the row that it gathers. -/
structure WSt (w W : World) (s3 : Nat) (x0 x1 x2 x3 x4 x5 y0 y1 : Value) (fr : Value) (QA : Nat → Prop) (h : Nat) (ys : List (ByteArray × Val)) (xs : List Value) : Prop where
  below : Below s3 w W
  b3 : IsBox W s3 x0 x1 x2 x3 x4 x5
  b5 : IsBox W (s3 + 1) y0 y1 (.string ⟨#[]⟩) (.slice none 0 0) (.slice none 0 0) (.slice none 0 0)
  b6 : IsBox W (s3 + 2) (.int .i64 0) (.int .i64 0) (.string ⟨#[]⟩) (.slice none 0 0) (.slice none 0 0) (.slice none 0 0)
  b7 : IsBox W (s3 + 3) x0 x1 x2 x3 fr x5
  acc : FAcc W (s3 + 4) fr QA h ys xs
theorem WSt.size {w W : World} {s3 : Nat} {x0 x1 x2 x3 x4 x5 y0 y1 fr : Value} {QA : Nat → Prop} {h : Nat} {ys : List (ByteArray × Val)} {xs : List Value} (s : WSt w W s3 x0 x1 x2 x3 x4 x5 y0 y1 fr QA h ys xs) : s3 + 4 ≤ W.heap.size := s.b7.lt
theorem WSt.keep {w W W' : World} {s3 : Nat} {x0 x1 x2 x3 x4 x5 y0 y1 fr : Value} {QA : Nat → Prop} {h : Nat} {ys : List (ByteArray × Val)} {xs : List Value} (s : WSt w W s3 x0 x1 x2 x3 x4 x5 y0 y1 fr QA h ys xs) (hb : Below W.heap.size W W') : WSt w W' s3 x0 x1 x2 x3 x4 x5 y0 y1 fr QA h ys xs :=
  ⟨s.below.trans (hb.mono (by have := s.size; omega)), s.b3.keep hb, s.b5.keep hb, s.b6.keep hb, s.b7.keep hb, s.acc.keep hb⟩
/-- Behind an append to the row, and the store of what it gave. -/
theorem WSt.push {w W W' : World} {s3 : Nat} {x0 x1 x2 x3 x4 x5 y0 y1 fr fr' : Value} {QA : Nat → Prop} {h : Nat} {ys : List (ByteArray × Val)} {xs : List Value} {nm : ByteArray} {y : Val} {c0 c1 c2 c3 c4 c5 : Value}
    (s : WSt w W s3 x0 x1 x2 x3 x4 x5 y0 y1 fr QA h ys xs) (hw : Wrote W W' fr fr') (hown : W'.ownsRow (s3 + 4) 40 7 fr' (ys.length + 1) (xs ++ [.string nm, c0, c1, c2, c3, c4, c5])) (hs : nm.size ≤ 140737488355328)
    (hv : VIn W QA h y (.agg #[c0, c1, c2, c3, c4, c5])) (hQ : ∀ g, QA g → g < s3) :
    IsBox W' s3 x0 x1 x2 x3 x4 x5 ∧ IsBox W' (s3 + 3) x0 x1 x2 x3 fr x5 ∧ WSt w (W'.setCell ⟨s3 + 3, 4, none⟩ fr') s3 x0 x1 x2 x3 x4 x5 y0 y1 fr' QA h (ys ++ [(nm, y)]) (xs ++ [.string nm, c0, c1, c2, c3, c4, c5]) := by
  have hsz := s.size
  have hbl : ∀ g, fr.ownBlock = some g → s3 + 4 ≤ g := fun g hg => (owns_block s.acc.own hg).1
  have hbl' : ∀ g, fr'.ownBlock = some g → s3 + 4 ≤ g := fun g hg => (owns_block hown hg).1
  have old : ∀ g, g < s3 + 4 → W'.heap[g]? = W.heap[g]? := fun g hg => hw.1.block g (by omega) (fun e => by have := hbl g e.symm; omega)
  have k3 : IsBox W' s3 x0 x1 x2 x3 x4 x5 := (old s3 (by omega)).trans s.b3
  have k5 := (old (s3 + 1) (by omega)).trans s.b5
  have k6 := (old (s3 + 2) (by omega)).trans s.b6
  have k7 : IsBox W' (s3 + 3) x0 x1 x2 x3 fr x5 := (old (s3 + 3) (by omega)).trans s.b7
  have ha := s.acc.push hw hown hs (hv.kept (Kept.of_below (Below.refl _ _)) (fun g hg => ⟨hg, fun e => by have := hbl g e; have := hQ g hg; omega⟩))
  have hb : Below s3 w W' := s.below.grown hw.1 (by omega) (fun g hg => by have := hbl g hg; omega)
  refine ⟨k3, k7, ⟨⟨hb.os, hb.tape, hb.output, by simpa using hb.size, fun g hg => (heap_setCell_other W' ⟨s3 + 3, 4, none⟩ g fr' (by show g ≠ s3 + 3; omega)).trans (hb.block g hg)⟩, k3.setO (by omega) 4 fr', IsBox.setO k5 (by omega) 4 fr', IsBox.setO k6 (by omega) 4 fr', k7.set4 fr', ?_⟩⟩
  refine ⟨owns_same ha.own (fun g hg => heap_setCell_other W' ⟨s3 + 3, 4, none⟩ g fr' (by show g ≠ s3 + 3; have := hbl' g hg; omega)), fun i hi => ?_⟩
  obtain ⟨hn, hs', d0, d1, d2, d3, d4, d5, h0, h1, h2, h3, h4, h5, hd⟩ := ha.at' i hi
  refine ⟨hn, hs', d0, d1, d2, d3, d4, d5, h0, h1, h2, h3, h4, h5, hd.kept (fun g hg _ => heap_setCell_other W' ⟨s3 + 3, 4, none⟩ g fr' (by show g ≠ s3 + 3; have := hQ g hg.1; omega)) (fun _ z => z)⟩
/-- A value with other fields. -/
theorem VIn.withFields {w W : World} {Q Q' : Nat → Prop} {h : Nat} {x : Val} {xk xn : Int} {xs : ByteArray} {ba fa la : Option Addr} {bn bc fn fc ln lc : Nat} (hv : VIn w Q (h + 1) x (.agg #[.int .i64 xk, .int .i64 xn, .string xs, .slice ba bn bc, .slice fa fn fc, .slice la ln lc])) (hk : Kept Q w W) (hQ : ∀ g, Q g → Q' g)
    {a5 : Option Addr} {c5 n : Nat} {ys : List (ByteArray × Val)} (hys : ys.length = n) (hn : n ≤ 1172812402961) (hc : n ≤ c5 ∧ c5 ≤ 9223372036854775807) (hf : FieldsIn W Q' (VIn W Q' h) a5 ys) :
    VIn W Q' (h + 1) (.mk x.kind x.n x.s x.b ys x.l) (.agg #[.int .i64 xk, .int .i64 xn, .string xs, .slice ba bn bc, .slice a5 n c5, .slice la ln lc]) := by
  obtain ⟨ba', fa', la', bc', fc', lc', e, hL, h2, h3, h4, hB, hF, hI⟩ := hv
  unfold agg at e
  injection e with e; injection e with e
  injection e with e0 e; injection e with e1 e; injection e with e2 e; injection e with e3 e; injection e with e4 e; injection e with e5 _
  injection e0 with _ e0
  injection e1 with _ e1
  injection e2 with e2
  injection e3 with e3a e3b e3c
  injection e5 with e5a e5b e5c
  subst e0; subst e1; subst e2; subst e3a; subst e3b; subst e3c; subst e5a; subst e5b; subst e5c; subst hys
  exact ⟨ba, a5, la, bc, c5, lc, rfl, ⟨hL.k0, hL.k1, hL.n0, hL.n1, hL.s, hL.b, hn, hL.l, hL.o⟩, h2, hc, h4, hB.kept hk hQ, hf, hI.kept hk hQ (fun _ _ z => VIn.kept hk hQ z)⟩
/-- Behind the store of the whole into the result's box. -/
theorem WSt.done {w wr : World} {Q : Nat → Prop} {h : Nat} {x : Val} {nm : ByteArray} {y : Val} {xn : Int} {xs : ByteArray} {ba fa la a5 : Option Addr} {bn bc fn fc ln lc c5 n5 : Nat} {y0 y1 : Value} {zs : List Value} {ys : List (ByteArray × Val)}
    (s : WSt w wr w.heap.size (.int .i64 6) (.int .i64 xn) (.string xs) (.slice ba bn bc) (.slice fa fn fc) (.slice la ln lc) y0 y1 (.slice a5 n5 c5) (fun g => Q g ∧ g < w.heap.size) (h + 1) ys zs)
    (hv : VIn w (fun g => Q g ∧ g < w.heap.size) (h + 2) x (.agg #[.int .i64 6, .int .i64 xn, .string xs, .slice ba bn bc, .slice fa fn fc, .slice la ln lc])) (hk : x.kind = 6) (hl : x.f.length ≤ 3000) (hend : withF nm y x.f = ys) (hyl : ys.length ≤ x.f.length + 1) (hn5 : n5 = ys.length) :
    ∀ W, W = puts wr (w.heap.size + 2) 0 [.int .i64 6, .int .i64 xn, .string xs, .slice ba bn bc, .slice a5 n5 c5, .slice la ln lc] →
      IsBox W (w.heap.size + 2) (.int .i64 6) (.int .i64 xn) (.string xs) (.slice ba bn bc) (.slice a5 n5 c5) (.slice la ln lc) ∧ VIn W (fun g => (Q g ∧ g < w.heap.size) ∨ w.heap.size ≤ g) (h + 2) (.mk 6 x.n x.s x.b (withF nm y x.f) x.l) (.agg #[.int .i64 6, .int .i64 xn, .string xs, .slice ba bn bc, .slice a5 n5 c5, .slice la ln lc]) ∧ Below w.heap.size w W := by
  intro W hW
  have hoth : ∀ g, g ≠ w.heap.size + 2 → W.heap[g]? = wr.heap[g]? := fun g hg => by rw [hW]; exact puts_other _ g hg _ _ _
  have hbox : IsBox W (w.heap.size + 2) (.int .i64 6) (.int .i64 xn) (.string xs) (.slice ba bn bc) (.slice a5 n5 c5) (.slice la ln lc) := by rw [hW]; exact s.b6.put _ _ _ _ _ _
  have hbw : Below w.heap.size w W := by rw [hW]; exact puts_below s.below (by omega) _ _
  clear hW
  obtain ⟨af, cf, haf, hcf, hfi⟩ := s.acc.fields (Q' := fun g => g ≠ w.heap.size + 2 ∧ ((Q g ∧ g < w.heap.size) ∨ w.heap.size ≤ g)) (fun g hg => ⟨by have := hg.2; omega, .inl hg⟩) (fun g hg _ => ⟨by omega, .inr (by omega)⟩)
  injection haf with e1 _ e3
  subst e1; subst e3
  have hB := s.below
  have hk1 : Kept (fun g => g ≠ w.heap.size + 2 ∧ ((Q g ∧ g < w.heap.size) ∨ w.heap.size ≤ g)) wr W := fun g hg _ => hoth g hg.1
  have hk2 : Kept (fun g => Q g ∧ g < w.heap.size) w W := fun g hg _ => (hoth g (by have := hg.2; omega)).trans (hB.block g hg.2)
  have hv2 := VIn.withFields (h := h + 1) hv hk2 (Q' := (fun g => (Q g ∧ g < w.heap.size) ∨ w.heap.size ≤ g)) (fun _ z => .inl z) (ys := ys) hn5.symm (by omega) (by rw [hn5]; exact hcf) (hfi.kept hk1 (fun _ z => z.2) (fun _ _ z => VIn.kept (h := h + 1) hk1 (fun _ z => z.2) z))
  rw [hk] at hv2
  refine ⟨hbox, ?_, hbw⟩
  rw [hend]
  exact hv2
end Go.Proofs.YtdcfddiicclpeaaDoor
end
section
namespace Go.Proofs.YtdcfddiicclpeaaDoor
open Go.RowKit
open Seal
open Bson (Val)
theorem BytesAt.lt {w : World} {Q : Nat → Prop} {v : Value} {n : Nat} (h : BytesAt w Q v n) : BytesAt w (fun g => Q g ∧ g < w.heap.size) v n := by
  obtain ⟨a, c, l, rfl, hl, ho, hb⟩ := h
  refine ⟨a, c, l, rfl, hl, ho, ?_⟩
  rcases hb with rfl | ⟨g, o, e, hq, hr⟩
  · exact .inl rfl
  · by_cases h0 : l.length = 0
    · exact .inl (List.eq_nil_of_length_eq_zero h0)
    · exact .inr ⟨g, o, e, ⟨hq, World.block_lt_of_cell? w _ (hr 0 (by omega))⟩, hr⟩
theorem BytesAt.kept {w w' : World} {Q : Nat → Prop} {v : Value} {n : Nat} (h : BytesAt w Q v n) (hk : ∀ g, Q g → g < w.heap.size → w'.heap[g]? = w.heap[g]?) : BytesAt w' Q v n := by
  obtain ⟨a, c, l, rfl, hl, ho, hb⟩ := h
  refine ⟨a, c, l, rfl, hl, ho, ?_⟩
  rcases hb with rfl | ⟨g, o, e, hq, hr⟩
  · exact .inl rfl
  · refine .inr ⟨g, o, e, hq, fun j hj => ?_⟩
    have hc := hr j hj
    have hlt := World.block_lt_of_cell? w _ hc
    rw [World.cell?_of_block (a := ⟨g, o + j, Option.none⟩) (hk g hq hlt)]
    exact hc
/-- The row that fields gathers, and the bytes of the field at hand. -/
structure Out (wx W : World) (base lo hi : Nat) (v : Value) (n : Nat) (vx : Value) (nx : Nat) : Prop where
  below : Below base wx W
  row : ∃ l, W.ownsRow base 5 1 v n (u8s l) ∧ Oct l
  size : base ≤ lo ∧ lo ≤ hi ∧ hi ≤ W.heap.size
  away : ∀ g, v.ownBlock = some g → g < lo ∨ hi ≤ g
  x : BytesAt W (fun g => g < base ∨ (lo ≤ g ∧ g < hi)) vx nx
theorem Out.keep {wx W W' : World} {base lo hi : Nat} {v : Value} {n : Nat} {vx : Value} {nx : Nat} (h : Out wx W base lo hi v n vx nx) (hb : Below W.heap.size W W') : Out wx W' base lo hi v n vx nx := by
  obtain ⟨l, h1, h2⟩ := h.row
  have hs := h.size
  exact ⟨h.below.trans (hb.mono (by omega)), ⟨l, owns_below h1 hb, h2⟩, ⟨hs.1, hs.2.1, Nat.le_trans hs.2.2 hb.size⟩, h.away, h.x.kept (fun g _ hg => hb.block g hg)⟩
theorem Out.put {wx W W' : World} {base lo hi : Nat} {v v' : Value} {n m : Nat} {vx : Value} {nx : Nat} (h : Out wx W base lo hi v n vx nx) {l : List Nat} (ho : W'.ownsRow base 5 1 v' (n + m) (u8s l)) (hl : Oct l) (hg : W.grownBy W' v.ownBlock) (hm : Moved W v v') : Out wx W' base lo hi v' (n + m) vx nx := by
  obtain ⟨l0, h1, h2⟩ := h.row
  have hs := h.size
  refine ⟨h.below.grown hg (by omega) (fun k hk => (owns_block h1 hk).1), ⟨l, ho, hl⟩, ⟨hs.1, hs.2.1, Nat.le_trans hs.2.2 hg.size⟩, fun g hgv => ?_, h.x.kept (fun g hq hlt => hg.block g hlt (fun e => ?_))⟩
  · rcases hm with e | e
    · exact h.away g (by rw [← e]; exact hgv)
    · rw [e] at hgv
      injection hgv with hgv
      omega
  · have ha := h.away g e.symm
    have hb := (owns_block h1 e.symm).1
    omega
theorem grown_none {w w' : World} {r : Option Nat} (h : w.grownBy w' none) : w.grownBy w' r := ⟨h.os, h.tape, h.output, h.size, fun k hk _ => h.block k hk (by simp)⟩
theorem Lies.grown {w w' : World} {v v' : Value} (h : Lies w w' v v') : w.grownBy w' v.ownBlock := by
  rcases h with ⟨_, h⟩ | ⟨_, h⟩
  · exact h
  · exact grown_none h
theorem Lies.moved {w w' : World} {v v' : Value} (h : Lies w w' v v') : Moved w v v' := by
  rcases h with ⟨h, _⟩ | ⟨h, _⟩
  · exact .inl h
  · exact .inr h
/-- A byte at the head of a block of its own. -/
def ByteAt (W : World) (N : Nat) (c : Int) (v : Value) : Prop := N < W.heap.size ∧ W.cell? ⟨N, 0, none⟩ = some (.int .u8 c) ∧ ∀ g, v.ownBlock = some g → g ≠ N
theorem ByteAt.new {W : World} {base lo hi : Nat} {wx : World} {v : Value} {n : Nat} {vx : Value} {nx : Nat} (h : Out wx W base lo hi v n vx nx) (c : Int) (t : TypeId) : ByteAt (W.alloc (.cells #[.int .u8 c] t)) W.heap.size c v := by
  obtain ⟨l0, h1, h2⟩ := h.row
  exact ⟨(Array.getElem?_eq_some_iff.1 (heap_alloc_new W _)).1, (cell_of_row _ _ 0 _ _ _ (heap_alloc_new W _)).trans rfl, fun g hg => by have := (owns_block h1 hg).2; omega⟩
theorem ByteAt.keep {W W' : World} {N : Nat} {c : Int} {v : Value} (h : ByteAt W N c v) (hb : Below W.heap.size W W') : ByteAt W' N c v := ⟨Nat.lt_of_lt_of_le h.1 hb.size, cell_keep hb h.2.1, h.2.2⟩
theorem ByteAt.put {W W' : World} {N : Nat} {c : Int} {v v' : Value} (h : ByteAt W N c v) (hg : W.grownBy W' v.ownBlock) (hm : Moved W v v') : ByteAt W' N c v' := by
  refine ⟨Nat.lt_of_lt_of_le h.1 hg.size, ?_, fun g hgv => ?_⟩
  · rw [World.cell?_of_block (a := ⟨N, 0, none⟩) (hg.block N h.1 (fun e => h.2.2 N e.symm rfl))]; exact h.2.1
  · rcases hm with e | e
    · exact h.2.2 g (by rw [← e]; exact hgv)
    · rw [e] at hgv
      injection hgv with hgv
      have := h.1
      omega
theorem ByteAt.reads {W : World} {N : Nat} {c : Int} {v : Value} (h : ByteAt W N c v) : ∀ j u, ([.int .u8 c] : List Value)[j]? = some u → W.cell? (Addr.add ⟨N, 0, none⟩ j) = some u := by
  intro j u hj
  cases j with
  | zero => simp at hj; subst hj; exact h.2.1
  | succ j => simp at hj
theorem oct_one {c : Nat} (h : c < 256) : Oct [c] := fun x hx => by rw [List.mem_singleton.1 hx]; exact h
end Go.Proofs.YtdcfddiicclpeaaDoor
end
section
namespace Go.Proofs.YtdcfddiicclpeaaDoor
open Go.RowKit
open Seal
open Bson (Val)
set_option maxRecDepth 100000 in
set_option maxHeartbeats 4000000 in
theorem with_any (Q : Nat → Prop) (h : Nat) (x : Val) (v : Value) (nm : ByteArray) (yk yn : Int) (w : World) (hx : VIn w Q (h + 2) x v) (hk : x.kind = 6) (hf : x.f.length ≤ 3000) (hnm : nm.size ≤ 140737488355328) (hyk : 1 ≤ yk ∧ yk ≤ 12) (hyn : 0 ≤ yn ∧ yn ≤ 1000) :
    Calls Tryd.prog 22 #[v, .string nm, .agg #[.int .i64 yk, .int .i64 yn, .string ⟨#[]⟩, .slice none 0 0, .slice none 0 0, .slice none 0 0]] w (ValPost (fun g => (Q g ∧ g < w.heap.size) ∨ w.heap.size ≤ g) w (h + 2) (.mk 6 x.n x.s x.b (withF nm (.mk yk yn ⟨#[]⟩ [] [] []) x.f) x.l)) := by
  obtain ⟨xk, xn, xs, ba, fa, la, bn, bc, fn, fc, ln, lc, rfl, hxk, hxn, hxs, hbn, hfn, hln, hL, hF, hI⟩ := hx.lt.letters
  obtain rfl : xk = 6 := by rw [hxk, hk]
  have hyk0 : (yk == 0) = false := by rw [beq_eq_false_iff_ne]; omega
  obtain ⟨i0, hi, hz0, hz1, hz2⟩ := info_parts infoField
  have HST : Hid (∀ W, W = (((w.alloc (.cells #[.int .i64 6, .int .i64 xn, .string xs, .slice ba bn bc, .slice fa fn fc, .slice la ln lc] 26)).alloc (.cells #[.int .i64 yk, .int .i64 yn, .string ⟨#[]⟩, .slice none 0 0, .slice none 0 0, .slice none 0 0] 26)).alloc (.cells #[.int .i64 0, .int .i64 0, .string ⟨#[]⟩, .slice none 0 0, .slice none 0 0, .slice none 0 0] 26)).alloc (.cells #[.int .i64 6, .int .i64 xn, .string xs, .slice ba bn bc, .slice none 0 0, .slice la ln lc] 26) →
      WSt w W w.heap.size (.int .i64 6) (.int .i64 xn) (.string xs) (.slice ba bn bc) (.slice fa fn fc) (.slice la ln lc) (.int .i64 yk) (.int .i64 yn) (.slice none 0 0) (fun g => Q g ∧ g < w.heap.size) (h + 1) [] []) := by
    intro W hW
    have b1 := (Below.refl w.heap.size w).alloc (Nat.le_refl _) (.cells #[.int .i64 6, .int .i64 xn, .string xs, .slice ba bn bc, .slice fa fn fc, .slice la ln lc] 26)
    have b2 := b1.alloc b1.size (.cells #[.int .i64 yk, .int .i64 yn, .string ⟨#[]⟩, .slice none 0 0, .slice none 0 0, .slice none 0 0] 26)
    have b3 := b2.alloc b2.size (.cells #[.int .i64 0, .int .i64 0, .string ⟨#[]⟩, .slice none 0 0, .slice none 0 0, .slice none 0 0] 26)
    have b4 := b3.alloc b3.size (.cells #[.int .i64 6, .int .i64 xn, .string xs, .slice ba bn bc, .slice none 0 0, .slice la ln lc] 26)
    have k0 := IsBox.new w (.int .i64 6) (.int .i64 xn) (.string xs) (.slice ba bn bc) (.slice fa fn fc) (.slice la ln lc)
    have k1 := IsBox.new2 w (.cells #[.int .i64 6, .int .i64 xn, .string xs, .slice ba bn bc, .slice fa fn fc, .slice la ln lc] 26) (.int .i64 yk) (.int .i64 yn) (.string ⟨#[]⟩) (.slice none 0 0) (.slice none 0 0) (.slice none 0 0)
    have k3 := IsBox.new4 w (.cells #[.int .i64 6, .int .i64 xn, .string xs, .slice ba bn bc, .slice fa fn fc, .slice la ln lc] 26) (.cells #[.int .i64 yk, .int .i64 yn, .string ⟨#[]⟩, .slice none 0 0, .slice none 0 0, .slice none 0 0] 26) (.cells #[.int .i64 0, .int .i64 0, .string ⟨#[]⟩, .slice none 0 0, .slice none 0 0, .slice none 0 0] 26) (.int .i64 6) (.int .i64 xn) (.string xs) (.slice ba bn bc) (.slice none 0 0) (.slice la ln lc)
    have k2 : IsBox (((w.alloc (.cells #[.int .i64 6, .int .i64 xn, .string xs, .slice ba bn bc, .slice fa fn fc, .slice la ln lc] 26)).alloc (.cells #[.int .i64 yk, .int .i64 yn, .string ⟨#[]⟩, .slice none 0 0, .slice none 0 0, .slice none 0 0] 26)).alloc (.cells #[.int .i64 0, .int .i64 0, .string ⟨#[]⟩, .slice none 0 0, .slice none 0 0, .slice none 0 0] 26)) (w.heap.size + 2) (.int .i64 0) (.int .i64 0) (.string ⟨#[]⟩) (.slice none 0 0) (.slice none 0 0) (.slice none 0 0) := by
      have := IsBox.new ((w.alloc (.cells #[.int .i64 6, .int .i64 xn, .string xs, .slice ba bn bc, .slice fa fn fc, .slice la ln lc] 26)).alloc (.cells #[.int .i64 yk, .int .i64 yn, .string ⟨#[]⟩, .slice none 0 0, .slice none 0 0, .slice none 0 0] 26)) (.int .i64 0) (.int .i64 0) (.string ⟨#[]⟩) (.slice none 0 0) (.slice none 0 0) (.slice none 0 0)
      simpa using this
    have s1 : Below (w.alloc (.cells #[.int .i64 6, .int .i64 xn, .string xs, .slice ba bn bc, .slice fa fn fc, .slice la ln lc] 26)).heap.size _ _ := (Below.refl _ _).alloc (Nat.le_refl _) (.cells #[.int .i64 yk, .int .i64 yn, .string ⟨#[]⟩, .slice none 0 0, .slice none 0 0, .slice none 0 0] 26)
    have s2 : Below ((w.alloc (.cells #[.int .i64 6, .int .i64 xn, .string xs, .slice ba bn bc, .slice fa fn fc, .slice la ln lc] 26)).alloc (.cells #[.int .i64 yk, .int .i64 yn, .string ⟨#[]⟩, .slice none 0 0, .slice none 0 0, .slice none 0 0] 26)).heap.size _ _ := (Below.refl _ _).alloc (Nat.le_refl _) (.cells #[.int .i64 0, .int .i64 0, .string ⟨#[]⟩, .slice none 0 0, .slice none 0 0, .slice none 0 0] 26)
    have s3 : Below (((w.alloc (.cells #[.int .i64 6, .int .i64 xn, .string xs, .slice ba bn bc, .slice fa fn fc, .slice la ln lc] 26)).alloc (.cells #[.int .i64 yk, .int .i64 yn, .string ⟨#[]⟩, .slice none 0 0, .slice none 0 0, .slice none 0 0] 26)).alloc (.cells #[.int .i64 0, .int .i64 0, .string ⟨#[]⟩, .slice none 0 0, .slice none 0 0, .slice none 0 0] 26)).heap.size _ _ := (Below.refl _ _).alloc (Nat.le_refl _) (.cells #[.int .i64 6, .int .i64 xn, .string xs, .slice ba bn bc, .slice none 0 0, .slice la ln lc] 26)
    have k0' := ((k0.keep s1).keep s2).keep s3
    have k1' := (k1.keep s2).keep s3
    have k2' := k2.keep s3
    subst hW
    exact ⟨b4, k0', k1', k2', k3, FAcc.nil _ _ _ _⟩
  have HKI := Lib.hid hk
  have HFN := Lib.hid hfn
  have HF0 := Lib.hid hF
  have HIT := Lib.hid hI
  have HVX := Lib.hid hx.lt
  have HLIM := Lib.hid hL
  have HPR := Lib.hid (And.intro hxn (And.intro hxs (And.intro hbn hln)))
  have HLEN := Lib.hid hf
  have HNM := Lib.hid hnm
  clear hx hk hF hI hL hxk hxn hxs hbn hfn hln hf hnm
  go_enter Tryd.func22, Tryd.ntmps22
  go_wp2_with fail
  have HS0 := Lib.hid (HST.out _ rfl)
  generalize (((w.alloc (.cells #[.int .i64 6, .int .i64 xn, .string xs, .slice ba bn bc, .slice fa fn fc, .slice la ln lc] 26)).alloc (.cells #[.int .i64 yk, .int .i64 yn, .string ⟨#[]⟩, .slice none 0 0, .slice none 0 0, .slice none 0 0] 26)).alloc (.cells #[.int .i64 0, .int .i64 0, .string ⟨#[]⟩, .slice none 0 0, .slice none 0 0, .slice none 0 0] 26)).alloc (.cells #[.int .i64 6, .int .i64 xn, .string xs, .slice ba bn bc, .slice none 0 0, .slice la ln lc] 26) = W0 at *
  rw [show w.heap.size + 1 + 1 + 1 = w.heap.size + 3 from rfl, show w.heap.size + 1 + 1 = w.heap.size + 2 from rfl]
  clear HST
  go_loopw [8, 9] (fun d i wr => ∃ (k : Nat) (fr : Value) (zs : List Value), d = .bool (hasF nm (x.f.take k)) ∧ i = .int .i64 k ∧ k ≤ fn ∧ Hid (WSt w wr w.heap.size (.int .i64 6) (.int .i64 xn) (.string xs) (.slice ba bn bc) (.slice fa fn fc) (.slice la ln lc) (.int .i64 yk) (.int .i64 yn) fr (fun g => Q g ∧ g < w.heap.size) (h + 1) (gath nm (.mk yk yn ⟨#[]⟩ [] [] []) (x.f.take k)) zs)) (fun _ i _ => fn - (intOf i).toNat)
  case atStart => exact ⟨0, _, _, rfl, rfl, Nat.zero_le _, HS0⟩
  case round =>
    clear HS0
    obtain ⟨k, fr, zs, rfl, rfl, hk, HS⟩ := hrel
    by_cases hlt : k < fn
    · obtain ⟨g, o, hla, hQg, hall⟩ := HF0.out.resolve_left (fun e => by have := HFN.out; rw [e] at this; simp at this; omega)
      have hkf : k < x.f.length := by rw [← HFN.out]; exact hlt
      obtain ⟨hfnm, hfs, v', hsix, hV⟩ := hall k hkf
      obtain rfl := hla
      have hK : Kept (fun g => Q g ∧ g < w.heap.size) w wr := fun g hg _ => HS.out.below.block g hg.2
      have hfnm := hK.cell hQg hfnm
      have hsix := hsix.kept hK hQg
      obtain ⟨q1, q2, q3, a1, a2, a3, n1, c1, n2, c2, n3, c3, rfl⟩ := hV.shape
      have HV := Lib.hid (VIn.kept hK (fun _ z => z) hV)
      obtain ⟨s0, s1, s2, s3, s4, s5⟩ := hsix.cells
      obtain ⟨f0, f1, f2, f3, f4, f5⟩ := HS.out.b3.cells
      have htk : x.f.take (k + 1) = x.f.take k ++ [x.f[k]] := List.take_succ_eq_append_getElem hkf
      obtain ⟨nk, hnk⟩ : ∃ z, z = (x.f[k]).1 := ⟨_, rfl⟩
      rw [← hnk] at hfnm hfs
      have hbx : Below wr.heap.size wr (wr.alloc (.cells #[.string nk, .int .i64 q1, .int .i64 q2, .string q3, .slice a1 n1 c1, .slice a2 n2 c2, .slice a3 n3 c3] 40)) := (Below.refl _ wr).alloc (Nat.le_refl _) _
      have HS1 := Lib.hid (HS.out.keep hbx)
      have hbz : Below wr.heap.size wr (wr.alloc (.cells #[.string nk, .int .i64 yk, .int .i64 yn, .string ⟨#[]⟩, .slice none 0 0, .slice none 0 0, .slice none 0 0] 40)) := (Below.refl _ wr).alloc (Nat.le_refl _) _
      have HS2 := Lib.hid (HS.out.keep hbz)
      clear hbx hbz
      have HNK := Lib.hid hnk
      have HTK := Lib.hid htk
      have HFS := Lib.hid hfs
      have HKF := Lib.hid hkf
      have hsz := HS.out.size
      have hn1 : ¬ w.heap.size + 1 = wr.heap.size := by omega
      have hn3 : ¬ w.heap.size + 3 = wr.heap.size := by omega
      have hn1' : ¬ wr.heap.size = w.heap.size + 1 := by omega
      have hn3' : ¬ wr.heap.size = w.heap.size + 3 := by omega
      have hl1 : w.heap.size + 1 < wr.heap.size := by omega
      have hl3 : w.heap.size + 3 < wr.heap.size := by omega
      have hsub : IntKind.i64.wrap ((k : Int) + 1) = (k : Int) + 1 := IntWalk.i64_in _ (by have := HLEN.out; omega)
      clear hall hnk htk
      obtain ⟨dn, hdn⟩ : ∃ z, z = hasF nm (x.f.take k) := ⟨_, rfl⟩
      have HDN := Lib.hid hdn
      rw [← hdn]
      clear hdn
      by_cases e : nk = nm
      · subst e
        have he : (nk.toList == nk.toList) = true := by simp
        cases dn
        · obtain ⟨y0, y1, y2, y3, y4, y5⟩ := HS.out.b5.cells
          obtain ⟨m0, m1, m2, m3, m4, m5⟩ := HS.out.b7.cells
          have hb2 : Below wr.heap.size wr ((wr.alloc (.cells #[.string nk, .int .i64 yk, .int .i64 yn, .string ⟨#[]⟩, .slice none 0 0, .slice none 0 0, .slice none 0 0] 40)).alloc (.cells #[.string nk, .int .i64 yk, .int .i64 yn, .string ⟨#[]⟩, .slice none 0 0, .slice none 0 0, .slice none 0 0] 40)) := ((Below.refl _ wr).alloc (Nat.le_refl _) _).alloc (by simp) _
          have HS2 := Lib.hid (HS.out.keep hb2)
          have HOWN : Hid (((wr.alloc (.cells #[.string nk, .int .i64 yk, .int .i64 yn, .string ⟨#[]⟩, .slice none 0 0, .slice none 0 0, .slice none 0 0] 40)).alloc (.cells #[.string nk, .int .i64 yk, .int .i64 yn, .string ⟨#[]⟩, .slice none 0 0, .slice none 0 0, .slice none 0 0] 40)).ownsRow (w.heap.size + 4) 40 7 fr k zs) := by have := HS2.out.acc.own; rw [gath_length, List.length_take, Nat.min_eq_left (Nat.le_of_lt HKF.out)] at this; exact this
          have HNW : Hid (∀ j u, ([.string nk, .int .i64 yk, .int .i64 yn, .string ⟨#[]⟩, .slice none 0 0, .slice none 0 0, .slice none 0 0] : List Value)[j]? = some u → ((wr.alloc (.cells #[.string nk, .int .i64 yk, .int .i64 yn, .string ⟨#[]⟩, .slice none 0 0, .slice none 0 0, .slice none 0 0] 40)).alloc (.cells #[.string nk, .int .i64 yk, .int .i64 yn, .string ⟨#[]⟩, .slice none 0 0, .slice none 0 0, .slice none 0 0] 40)).cell? (Addr.add ⟨wr.heap.size + 1, 0, none⟩ j) = some u) := by
            have := seven_new (wr.alloc (.cells #[.string nk, .int .i64 yk, .int .i64 yn, .string ⟨#[]⟩, .slice none 0 0, .slice none 0 0, .slice none 0 0] 40)) (.string nk) (.int .i64 yk) (.int .i64 yn) (.string ⟨#[]⟩) (.slice none 0 0) (.slice none 0 0) (.slice none 0 0) 40
            rw [World.size_alloc] at this
            exact this
          have HSZ2 : Hid (w.heap.size + 4 ≤ ((wr.alloc (.cells #[.string nk, .int .i64 yk, .int .i64 yn, .string ⟨#[]⟩, .slice none 0 0, .slice none 0 0, .slice none 0 0] 40)).alloc (.cells #[.string nk, .int .i64 yk, .int .i64 yn, .string ⟨#[]⟩, .slice none 0 0, .slice none 0 0, .slice none 0 0] 40)).heap.size) := HS2.out.size
          have HVY : Hid (VIn ((wr.alloc (.cells #[.string nk, .int .i64 yk, .int .i64 yn, .string ⟨#[]⟩, .slice none 0 0, .slice none 0 0, .slice none 0 0] 40)).alloc (.cells #[.string nk, .int .i64 yk, .int .i64 yn, .string ⟨#[]⟩, .slice none 0 0, .slice none 0 0, .slice none 0 0] 40)) (fun g => Q g ∧ g < w.heap.size) (h + 1) (.mk yk yn ⟨#[]⟩ [] [] []) (.agg #[.int .i64 yk, .int .i64 yn, .string ⟨#[]⟩, .slice none 0 0, .slice none 0 0, .slice none 0 0])) := leaf_in _ _ yk yn (by omega) (by omega) h
          clear hb2
          go_wp2_with (at_builtin; refine wpList_append_sz _ rfl (.tmp 46) (.tmp 48) 23 rfl (w.heap.size + 4) 40 i0 (.agg #[.string ⟨#[]⟩, .int .i64 0, .int .i64 0, .string ⟨#[]⟩, .slice none 0 0, .slice none 0 0, .slice none 0 0]) 7 120 Tryd.underlying23 hi hz0 hz1 hz2 rfl fr k zs rfl HOWN.out ⟨wr.heap.size + 1, 0, none⟩ 1 1 [.string nk, .int .i64 yk, .int .i64 yn, .string ⟨#[]⟩, .slice none 0 0, .slice none 0 0, .slice none 0 0] rfl rfl (by decide) (by decide) HNW.out (seven_one _ _ _ _ _ _ _ _ _ _ _ _ _) (by unfold maxLen; have := HLEN.out; have := HKF.out; omega) (by have := HLEN.out; have := HKF.out; omega) HSZ2.out ?_)
          intro v5 w5 hown5 hlies5
          obtain ⟨a5, c5, rfl⟩ := owns_shape hown5
          have hp := WSt.push HS2.out (nm := nk) (Wrote.of_lies hlies5) (by rw [gath_length, List.length_take, Nat.min_eq_left (Nat.le_of_lt HKF.out)]; exact hown5) HNM.out HVY.out (fun g hg => hg.2)
          obtain ⟨_, p7, p8⟩ := hp
          have HS5 := Lib.hid p8
          obtain ⟨u0, u1, u2, u3, u4, u5⟩ := p7.cells
          obtain ⟨r0, r1, r2, r3, r4, r5⟩ := p7.thaw
          clear p7 p8 hown5 hlies5 HOWN HNW HSZ2 HS2
          go_wp2_with fail
          go_roundw
          case rel =>
            refine ⟨k + 1, .slice a5 (k + 1) c5, zs ++ [.string nk, .int .i64 yk, .int .i64 yn, .string ⟨#[]⟩, .slice none 0 0, .slice none 0 0, .slice none 0 0], ?_, by go_num, by omega, ?_⟩
            · rw [HTK.out, hasF_app, hasF, if_pos HNK.out.symm, Bool.or_true]
            · have h9 := HS5.out
              rw [HTK.out, gath_set HDN.out.symm HNK.out.symm, ← HNK.out]
              exact h9
          case measure => simp [intOf]; omega
        · obtain ⟨m0, m1, m2, m3, m4, m5⟩ := HS.out.b7.cells
          have hb2 : Below wr.heap.size wr ((wr.alloc (.cells #[.string nk, .int .i64 q1, .int .i64 q2, .string q3, .slice a1 n1 c1, .slice a2 n2 c2, .slice a3 n3 c3] 40)).alloc (.cells #[.string nk, .int .i64 q1, .int .i64 q2, .string q3, .slice a1 n1 c1, .slice a2 n2 c2, .slice a3 n3 c3] 40)) := ((Below.refl _ wr).alloc (Nat.le_refl _) _).alloc (by simp) _
          have HS2 := Lib.hid (HS.out.keep hb2)
          have HOWN : Hid (((wr.alloc (.cells #[.string nk, .int .i64 q1, .int .i64 q2, .string q3, .slice a1 n1 c1, .slice a2 n2 c2, .slice a3 n3 c3] 40)).alloc (.cells #[.string nk, .int .i64 q1, .int .i64 q2, .string q3, .slice a1 n1 c1, .slice a2 n2 c2, .slice a3 n3 c3] 40)).ownsRow (w.heap.size + 4) 40 7 fr k zs) := by have := HS2.out.acc.own; rw [gath_length, List.length_take, Nat.min_eq_left (Nat.le_of_lt HKF.out)] at this; exact this
          have HNW : Hid (∀ j u, ([.string nk, .int .i64 q1, .int .i64 q2, .string q3, .slice a1 n1 c1, .slice a2 n2 c2, .slice a3 n3 c3] : List Value)[j]? = some u → ((wr.alloc (.cells #[.string nk, .int .i64 q1, .int .i64 q2, .string q3, .slice a1 n1 c1, .slice a2 n2 c2, .slice a3 n3 c3] 40)).alloc (.cells #[.string nk, .int .i64 q1, .int .i64 q2, .string q3, .slice a1 n1 c1, .slice a2 n2 c2, .slice a3 n3 c3] 40)).cell? (Addr.add ⟨wr.heap.size + 1, 0, none⟩ j) = some u) := by
            have := seven_new (wr.alloc (.cells #[.string nk, .int .i64 q1, .int .i64 q2, .string q3, .slice a1 n1 c1, .slice a2 n2 c2, .slice a3 n3 c3] 40)) (.string nk) (.int .i64 q1) (.int .i64 q2) (.string q3) (.slice a1 n1 c1) (.slice a2 n2 c2) (.slice a3 n3 c3) 40
            rw [World.size_alloc] at this
            exact this
          have HSZ2 : Hid (w.heap.size + 4 ≤ ((wr.alloc (.cells #[.string nk, .int .i64 q1, .int .i64 q2, .string q3, .slice a1 n1 c1, .slice a2 n2 c2, .slice a3 n3 c3] 40)).alloc (.cells #[.string nk, .int .i64 q1, .int .i64 q2, .string q3, .slice a1 n1 c1, .slice a2 n2 c2, .slice a3 n3 c3] 40)).heap.size) := HS2.out.size
          have HVY : Hid (VIn ((wr.alloc (.cells #[.string nk, .int .i64 q1, .int .i64 q2, .string q3, .slice a1 n1 c1, .slice a2 n2 c2, .slice a3 n3 c3] 40)).alloc (.cells #[.string nk, .int .i64 q1, .int .i64 q2, .string q3, .slice a1 n1 c1, .slice a2 n2 c2, .slice a3 n3 c3] 40)) (fun g => Q g ∧ g < w.heap.size) (h + 1) (x.f[k].2) (.agg #[.int .i64 q1, .int .i64 q2, .string q3, .slice a1 n1 c1, .slice a2 n2 c2, .slice a3 n3 c3])) := VIn.keep (h := h + 1) hb2 HV.out
          clear hb2
          go_wp2_with (at_builtin; refine wpList_append_sz _ rfl (.tmp 46) (.tmp 48) 23 rfl (w.heap.size + 4) 40 i0 (.agg #[.string ⟨#[]⟩, .int .i64 0, .int .i64 0, .string ⟨#[]⟩, .slice none 0 0, .slice none 0 0, .slice none 0 0]) 7 120 Tryd.underlying23 hi hz0 hz1 hz2 rfl fr k zs rfl HOWN.out ⟨wr.heap.size + 1, 0, none⟩ 1 1 [.string nk, .int .i64 q1, .int .i64 q2, .string q3, .slice a1 n1 c1, .slice a2 n2 c2, .slice a3 n3 c3] rfl rfl (by decide) (by decide) HNW.out (seven_one _ _ _ _ _ _ _ _ _ _ _ _ _) (by unfold maxLen; have := HLEN.out; have := HKF.out; omega) (by have := HLEN.out; have := HKF.out; omega) HSZ2.out ?_)
          intro v5 w5 hown5 hlies5
          obtain ⟨a5, c5, rfl⟩ := owns_shape hown5
          have hp := WSt.push HS2.out (nm := nk) (Wrote.of_lies hlies5) (by rw [gath_length, List.length_take, Nat.min_eq_left (Nat.le_of_lt HKF.out)]; exact hown5) HFS.out HVY.out (fun g hg => hg.2)
          obtain ⟨_, p7, p8⟩ := hp
          have HS5 := Lib.hid p8
          obtain ⟨u0, u1, u2, u3, u4, u5⟩ := p7.cells
          obtain ⟨r0, r1, r2, r3, r4, r5⟩ := p7.thaw
          clear p7 p8 hown5 hlies5 HOWN HNW HSZ2 HS2
          go_wp2_with fail
          go_roundw
          case rel =>
            refine ⟨k + 1, .slice a5 (k + 1) c5, zs ++ [.string nk, .int .i64 q1, .int .i64 q2, .string q3, .slice a1 n1 c1, .slice a2 n2 c2, .slice a3 n3 c3], ?_, by go_num, by omega, ?_⟩
            · rw [HTK.out, hasF_app, ← HDN.out, Bool.true_or]
            · have h9 := HS5.out
              rw [HTK.out, gath_same (.inl HDN.out.symm)]
              have e9 : x.f[k] = (nk, x.f[k].2) := Prod.ext HNK.out.symm rfl
              rw [← e9] at h9
              exact h9
          case measure => simp [intOf]; omega
      · have he : (nk.toList == nm.toList) = false := str_ne e
        have HNE := Lib.hid e
        clear e
        obtain ⟨m0, m1, m2, m3, m4, m5⟩ := HS.out.b7.cells
        have hb2 : Below wr.heap.size wr ((wr.alloc (.cells #[.string nk, .int .i64 q1, .int .i64 q2, .string q3, .slice a1 n1 c1, .slice a2 n2 c2, .slice a3 n3 c3] 40)).alloc (.cells #[.string nk, .int .i64 q1, .int .i64 q2, .string q3, .slice a1 n1 c1, .slice a2 n2 c2, .slice a3 n3 c3] 40)) := ((Below.refl _ wr).alloc (Nat.le_refl _) _).alloc (by simp) _
        have HS2 := Lib.hid (HS.out.keep hb2)
        have HOWN : Hid (((wr.alloc (.cells #[.string nk, .int .i64 q1, .int .i64 q2, .string q3, .slice a1 n1 c1, .slice a2 n2 c2, .slice a3 n3 c3] 40)).alloc (.cells #[.string nk, .int .i64 q1, .int .i64 q2, .string q3, .slice a1 n1 c1, .slice a2 n2 c2, .slice a3 n3 c3] 40)).ownsRow (w.heap.size + 4) 40 7 fr k zs) := by have := HS2.out.acc.own; rw [gath_length, List.length_take, Nat.min_eq_left (Nat.le_of_lt HKF.out)] at this; exact this
        have HNW : Hid (∀ j u, ([.string nk, .int .i64 q1, .int .i64 q2, .string q3, .slice a1 n1 c1, .slice a2 n2 c2, .slice a3 n3 c3] : List Value)[j]? = some u → ((wr.alloc (.cells #[.string nk, .int .i64 q1, .int .i64 q2, .string q3, .slice a1 n1 c1, .slice a2 n2 c2, .slice a3 n3 c3] 40)).alloc (.cells #[.string nk, .int .i64 q1, .int .i64 q2, .string q3, .slice a1 n1 c1, .slice a2 n2 c2, .slice a3 n3 c3] 40)).cell? (Addr.add ⟨wr.heap.size + 1, 0, none⟩ j) = some u) := by
          have := seven_new (wr.alloc (.cells #[.string nk, .int .i64 q1, .int .i64 q2, .string q3, .slice a1 n1 c1, .slice a2 n2 c2, .slice a3 n3 c3] 40)) (.string nk) (.int .i64 q1) (.int .i64 q2) (.string q3) (.slice a1 n1 c1) (.slice a2 n2 c2) (.slice a3 n3 c3) 40
          rw [World.size_alloc] at this
          exact this
        have HSZ2 : Hid (w.heap.size + 4 ≤ ((wr.alloc (.cells #[.string nk, .int .i64 q1, .int .i64 q2, .string q3, .slice a1 n1 c1, .slice a2 n2 c2, .slice a3 n3 c3] 40)).alloc (.cells #[.string nk, .int .i64 q1, .int .i64 q2, .string q3, .slice a1 n1 c1, .slice a2 n2 c2, .slice a3 n3 c3] 40)).heap.size) := HS2.out.size
        have HVY : Hid (VIn ((wr.alloc (.cells #[.string nk, .int .i64 q1, .int .i64 q2, .string q3, .slice a1 n1 c1, .slice a2 n2 c2, .slice a3 n3 c3] 40)).alloc (.cells #[.string nk, .int .i64 q1, .int .i64 q2, .string q3, .slice a1 n1 c1, .slice a2 n2 c2, .slice a3 n3 c3] 40)) (fun g => Q g ∧ g < w.heap.size) (h + 1) (x.f[k].2) (.agg #[.int .i64 q1, .int .i64 q2, .string q3, .slice a1 n1 c1, .slice a2 n2 c2, .slice a3 n3 c3])) := VIn.keep (h := h + 1) hb2 HV.out
        clear hb2
        go_wp2_with (at_builtin; refine wpList_append_sz _ rfl (.tmp 46) (.tmp 48) 23 rfl (w.heap.size + 4) 40 i0 (.agg #[.string ⟨#[]⟩, .int .i64 0, .int .i64 0, .string ⟨#[]⟩, .slice none 0 0, .slice none 0 0, .slice none 0 0]) 7 120 Tryd.underlying23 hi hz0 hz1 hz2 rfl fr k zs rfl HOWN.out ⟨wr.heap.size + 1, 0, none⟩ 1 1 [.string nk, .int .i64 q1, .int .i64 q2, .string q3, .slice a1 n1 c1, .slice a2 n2 c2, .slice a3 n3 c3] rfl rfl (by decide) (by decide) HNW.out (seven_one _ _ _ _ _ _ _ _ _ _ _ _ _) (by unfold maxLen; have := HLEN.out; have := HKF.out; omega) (by have := HLEN.out; have := HKF.out; omega) HSZ2.out ?_)
        intro v5 w5 hown5 hlies5
        obtain ⟨a5, c5, rfl⟩ := owns_shape hown5
        have hp := WSt.push HS2.out (nm := nk) (Wrote.of_lies hlies5) (by rw [gath_length, List.length_take, Nat.min_eq_left (Nat.le_of_lt HKF.out)]; exact hown5) HFS.out HVY.out (fun g hg => hg.2)
        obtain ⟨_, p7, p8⟩ := hp
        have HS5 := Lib.hid p8
        obtain ⟨u0, u1, u2, u3, u4, u5⟩ := p7.cells
        obtain ⟨r0, r1, r2, r3, r4, r5⟩ := p7.thaw
        clear p7 p8 hown5 hlies5 HOWN HNW HSZ2 HS2
        go_wp2_with fail
        go_roundw
        case rel =>
          refine ⟨k + 1, .slice a5 (k + 1) c5, zs ++ [.string nk, .int .i64 q1, .int .i64 q2, .string q3, .slice a1 n1 c1, .slice a2 n2 c2, .slice a3 n3 c3], ?_, by go_num, by omega, ?_⟩
          · rw [HTK.out, hasF_app, hasF, if_neg (by rw [← HNK.out]; exact HNE.out), hasF, Bool.or_false, HDN.out]
          · have h9 := HS5.out
            rw [HTK.out, gath_same (.inr (by rw [← HNK.out]; exact HNE.out))]
            have e9 : x.f[k] = (nk, x.f[k].2) := Prod.ext HNK.out.symm rfl
            rw [← e9] at h9
            exact h9
        case measure => simp [intOf]; omega
    · have hkn : k = fn := by omega
      have HTK : Hid (x.f.take k = x.f) := List.take_of_length_le (by rw [← HFN.out]; omega)
      have hhn : hasF nm (x.f.take k) = hasF nm x.f := by rw [HTK.out]
      have HGT : Hid (gath nm (.mk yk yn ⟨#[]⟩ [] [] []) (x.f.take k) = gath nm (.mk yk yn ⟨#[]⟩ [] [] []) x.f) := by rw [HTK.out]; exact rfl
      have HEX : Hid (WSt w wr w.heap.size (.int .i64 6) (.int .i64 xn) (.string xs) (.slice ba bn bc) (.slice fa fn fc) (.slice la ln lc) (.int .i64 yk) (.int .i64 yn) fr (fun g => Q g ∧ g < w.heap.size) (h + 1) (gath nm (.mk yk yn ⟨#[]⟩ [] [] []) x.f) zs) := by rw [← HGT.out]; exact HS.out
      rw [hhn]
      obtain ⟨dn, hdn⟩ : ∃ z, z = hasF nm x.f := ⟨_, rfl⟩
      have HDN := Lib.hid hdn
      rw [← hdn]
      clear hdn hhn HS
      obtain ⟨f0, f1, f2, f3, f4, f5⟩ := HEX.out.b3.cells
      cases dn
      · obtain ⟨m0, m1, m2, m3, m4, m5⟩ := HEX.out.b7.cells
        obtain ⟨y0, y1, y2, y3, y4, y5⟩ := HEX.out.b5.cells
        have hb2 : Below wr.heap.size wr (wr.alloc (.cells #[.string nm, .int .i64 yk, .int .i64 yn, .string ⟨#[]⟩, .slice none 0 0, .slice none 0 0, .slice none 0 0] 40)) := (Below.refl _ wr).alloc (Nat.le_refl _) _
        have HS2 := Lib.hid (HEX.out.keep hb2)
        have HGL : Hid ((gath nm (.mk yk yn ⟨#[]⟩ [] [] []) x.f).length = fn) := by rw [gath_length]; exact HFN.out.symm
        have HOWN : Hid ((wr.alloc (.cells #[.string nm, .int .i64 yk, .int .i64 yn, .string ⟨#[]⟩, .slice none 0 0, .slice none 0 0, .slice none 0 0] 40)).ownsRow (w.heap.size + 4) 40 7 fr fn zs) := by have := HS2.out.acc.own; rw [HGL.out] at this; exact this
        have HNW : Hid (∀ j u, ([.string nm, .int .i64 yk, .int .i64 yn, .string ⟨#[]⟩, .slice none 0 0, .slice none 0 0, .slice none 0 0] : List Value)[j]? = some u → (wr.alloc (.cells #[.string nm, .int .i64 yk, .int .i64 yn, .string ⟨#[]⟩, .slice none 0 0, .slice none 0 0, .slice none 0 0] 40)).cell? (Addr.add ⟨wr.heap.size, 0, none⟩ j) = some u) := seven_new wr (.string nm) (.int .i64 yk) (.int .i64 yn) (.string ⟨#[]⟩) (.slice none 0 0) (.slice none 0 0) (.slice none 0 0) 40
        have HSZ2 : Hid (w.heap.size + 4 ≤ (wr.alloc (.cells #[.string nm, .int .i64 yk, .int .i64 yn, .string ⟨#[]⟩, .slice none 0 0, .slice none 0 0, .slice none 0 0] 40)).heap.size) := HS2.out.size
        have HVY : Hid (VIn (wr.alloc (.cells #[.string nm, .int .i64 yk, .int .i64 yn, .string ⟨#[]⟩, .slice none 0 0, .slice none 0 0, .slice none 0 0] 40)) (fun g => Q g ∧ g < w.heap.size) (h + 1) (.mk yk yn ⟨#[]⟩ [] [] []) (.agg #[.int .i64 yk, .int .i64 yn, .string ⟨#[]⟩, .slice none 0 0, .slice none 0 0, .slice none 0 0])) := leaf_in _ _ yk yn (by omega) (by omega) h
        have hfn3 : fn ≤ 3000 := by have := HLEN.out; have := HFN.out; omega
        clear hb2
        go_wp2_with (at_builtin; refine wpList_append_sz _ rfl (.tmp 54) (.tmp 58) 23 rfl (w.heap.size + 4) 40 i0 (.agg #[.string ⟨#[]⟩, .int .i64 0, .int .i64 0, .string ⟨#[]⟩, .slice none 0 0, .slice none 0 0, .slice none 0 0]) 7 120 Tryd.underlying23 hi hz0 hz1 hz2 rfl fr fn zs rfl HOWN.out ⟨wr.heap.size, 0, none⟩ 1 1 [.string nm, .int .i64 yk, .int .i64 yn, .string ⟨#[]⟩, .slice none 0 0, .slice none 0 0, .slice none 0 0] rfl rfl (by decide) (by decide) HNW.out (seven_one _ _ _ _ _ _ _ _ _ _ _ _ _) (by unfold maxLen; omega) (by omega) HSZ2.out ?_)
        intro v5 w5 hown5 hlies5
        obtain ⟨a5, c5, rfl⟩ := owns_shape hown5
        have hp := WSt.push HS2.out (nm := nm) (Wrote.of_lies hlies5) (by rw [HGL.out]; exact hown5) HNM.out HVY.out (fun g hg => hg.2)
        obtain ⟨_, p7, p8⟩ := hp
        have HS5 := Lib.hid p8
        obtain ⟨u0, u1, u2, u3, u4, u5⟩ := p7.cells
        obtain ⟨r0, r1, r2, r3, r4, r5⟩ := p7.thaw
        obtain ⟨W5, hW5⟩ : ∃ W5, W5 = w5.setCell ⟨w.heap.size + 3, 4, none⟩ (.slice a5 (fn + 1) c5) := ⟨_, rfl⟩
        rw [← hW5] at HS5
        have HRES := Lib.hid (WSt.done HS5.out HVX.out HKI.out HLEN.out (by rw [gath_end, if_neg (by rw [← HDN.out]; decide)]) (by rw [List.length_append, gath_length]; exact Nat.le_refl _) (by rw [List.length_append, HGL.out]; rfl))
        have HW5 := Lib.hid hW5
        clear p7 p8 hown5 hlies5 HOWN HNW HSZ2 HS2 hW5
        go_upto_region 17 with fail
        rw [← HW5.out]
        clear m0 m1 m2 m3 m4 m5 y0 y1 y2 y3 y4 y5 u0 u1 u2 u3 u4 u5 r0 r1 r2 r3 r4 r5 f0 f1 f2 f3 f4 f5
        obtain ⟨m0, m1, m2, m3, m4, m5⟩ := HS5.out.b7.cells
        obtain ⟨z0, z1, z2, z3, z4, z5⟩ := HS5.out.b6.cells
        obtain ⟨r0, r1, r2, r3, r4, r5⟩ := HS5.out.b6.thaw
        go_wp2_with fail
        clear m0 m1 m2 m3 m4 m5 z0 z1 z2 z3 z4 z5 r0 r1 r2 r3 r4 r5
        obtain ⟨W1, hW1⟩ : ∃ W1, W1 = puts (W5) (w.heap.size + 2) 0 [.int .i64 6, .int .i64 xn, .string xs, .slice ba bn bc, .slice a5 (fn + 1) c5, .slice la ln lc] := ⟨_, rfl⟩
        obtain ⟨hbx, hvv, hbb⟩ := HRES.out W1 hW1
        change bodyPost _ _ _ _ _ (puts (W5) (w.heap.size + 2) 0 [.int .i64 6, .int .i64 xn, .string xs, .slice ba bn bc, .slice a5 (fn + 1) c5, .slice la ln lc])
        rw [← hW1]
        have HVV := Lib.hid hvv
        have HBB := Lib.hid hbb
        obtain ⟨z0, z1, z2, z3, z4, z5⟩ := hbx.cells
        clear hW1 hvv hbb hbx HRES
        exact bodyPost_ret (v := .agg #[.int .i64 6, .int .i64 xn, .string xs, .slice ba bn bc, .slice a5 (fn + 1) c5, .slice la ln lc]) (by simp [results, Tryd.results22, go_sem, z0, z1, z2, z3, z4, z5]) rfl ⟨_, rfl, HVV.out, HBB.out⟩
      · obtain ⟨m0, m1, m2, m3, m4, m5⟩ := HEX.out.b7.cells
        obtain ⟨z0, z1, z2, z3, z4, z5⟩ := HEX.out.b6.cells
        obtain ⟨r0, r1, r2, r3, r4, r5⟩ := HEX.out.b6.thaw
        obtain ⟨a5, c5, hfr⟩ := owns_shape HEX.out.acc.own
        subst hfr
        go_wp2_with fail
        have HRES := Lib.hid (WSt.done HEX.out HVX.out HKI.out HLEN.out (by rw [gath_end, if_pos HDN.out.symm]) (by rw [gath_length]; omega) rfl)
        clear m0 m1 m2 m3 m4 m5 z0 z1 z2 z3 z4 z5 r0 r1 r2 r3 r4 r5
        obtain ⟨W1, hW1⟩ : ∃ W1, W1 = puts (wr) (w.heap.size + 2) 0 [.int .i64 6, .int .i64 xn, .string xs, .slice ba bn bc, .slice a5 ((gath nm (.mk yk yn ⟨#[]⟩ [] [] []) x.f).length) c5, .slice la ln lc] := ⟨_, rfl⟩
        obtain ⟨hbx, hvv, hbb⟩ := HRES.out W1 hW1
        change bodyPost _ _ _ _ _ (puts (wr) (w.heap.size + 2) 0 [.int .i64 6, .int .i64 xn, .string xs, .slice ba bn bc, .slice a5 ((gath nm (.mk yk yn ⟨#[]⟩ [] [] []) x.f).length) c5, .slice la ln lc])
        rw [← hW1]
        have HVV := Lib.hid hvv
        have HBB := Lib.hid hbb
        obtain ⟨z0, z1, z2, z3, z4, z5⟩ := hbx.cells
        clear hW1 hvv hbb hbx HRES
        exact bodyPost_ret (v := .agg #[.int .i64 6, .int .i64 xn, .string xs, .slice ba bn bc, .slice a5 ((gath nm (.mk yk yn ⟨#[]⟩ [] [] []) x.f).length) c5, .slice la ln lc]) (by simp [results, Tryd.results22, go_sem, z0, z1, z2, z3, z4, z5]) rfl ⟨_, rfl, HVV.out, HBB.out⟩
end Go.Proofs.YtdcfddiicclpeaaDoor
end
