/- (*pile).Push, (*pile).Pop. -/
import Derived.Test.YtfkkckadnookoaaTopLess
import Derived.Test.YtfkkckadnookoaaStepApp
import Derived.Deep.AppendLies
import Derived.Deep.RegionLaw
import Derived.Deep.RegionLawGrows
namespace Go.Proofs.Ytfkkckadnookoaa
open Go.RowKit
open Seal
section
variable {w : World} {p : Nat} {m c s : Int} {v : Value} {d : List Rk}
set_option maxRecDepth 100000 in
theorem infoR : (Try.prog.info? 49).map (fun i => (i.zero, i.size, i.bytes)) = some (some (.agg #[.slice none 0 0, .slice none 0 0, .int .i64 0]), 3, 56) := by kernel_rfl
theorem info_of {P : Program} {e : TypeId} {z : Value} {a b : Nat} (h : (P.info? e).map (fun i => (i.zero, i.size, i.bytes)) = some (some z, a, b)) : ∃ i, P.info? e = some i ∧ i.zero = some z ∧ i.size = a ∧ i.bytes = b := by
  cases hi : P.info? e with
  | none => rw [hi] at h; cases h
  | some i =>
    rw [hi, Option.map_some] at h
    have h1 := Option.some.inj h
    exact ⟨i, rfl, congrArg Prod.fst h1, congrArg (fun q => q.2.1) h1, congrArg (fun q => q.2.2) h1⟩
set_option maxRecDepth 100000 in
theorem assertR (a b c : Value) (w : World) : (Instr.typeAssert (.iface 49 (.agg #[a, b, c])) 20 49 true).run Try.prog w = .ok (.tuple #[.agg #[a, b, c], .bool true]) w := by kernel_rfl
theorem cell_keepW {w w' : World} {b o : Nat} {v : Value} (hb : Below w.heap.size w w') (h : w.cell? ⟨b, o, none⟩ = some v) : w'.cell? ⟨b, o, none⟩ = some v := (hb.cell (World.block_lt_of_cell? w _ h)).trans h
theorem three_new (w : World) (a b c : Value) (t : TypeId) : ∀ j u, ([a, b, c] : List Value)[j]? = some u → (w.alloc (.cells #[a, b, c] t)).drew.cell? (Addr.add ⟨w.heap.size, 0, none⟩ j) = some u := by
  intro j u hj
  match j, hj with
  | 0, hj => simp at hj; subst hj; simp [Addr.add]
  | 1, hj => simp at hj; subst hj; simp [Addr.add]
  | 2, hj => simp at hj; subst hj; simp [Addr.add]
  | j + 3, hj => simp at hj
theorem three_one (a : Option Addr) (n c : Nat) (a2 : Option Addr) (n2 c2 : Nat) (i : Int) : ∀ u ∈ ([.slice a n c, .slice a2 n2 c2, .int .i64 i] : List Value), u.oneCell' = true := by
  intro u hu
  simp at hu
  rcases hu with rfl | rfl | rfl <;> rfl
theorem owns_sl {w : World} {base : Nat} {e : TypeId} {size : Nat} {v : Value} {n : Nat} {xs : List Value} (h : w.ownsRow base e size v n xs) : ∃ a c, v = .slice a n c := by
  obtain ⟨_, ⟨rfl, rfl⟩ | ⟨b, cap, cur, rfl, _⟩⟩ := h
  · exact ⟨none, 0, rfl⟩
  · exact ⟨_, cap, rfl⟩
/-- What Push leaves: the row is one longer, in its own block or in a new one. -/
theorem push_mem {W W2 : World} {v' : Value} {r : Rk} (h : PileAt w p m c s v d) (hb : Below w.heap.size w W) (hr : RkIn w (fun g => ¬ PF p v g) r) (hown : W2.ownsRow (p + 1) 49 3 v' (d.length + 1) (flat d ++ [r.kv, r.dv, .int .i64 r.c])) (hl : Lies W W2 v v') :
    PileAt (W2.setCell ⟨p, 1, none⟩ v') p m c s v' (d ++ [r]) ∧ RM (PF p v) w (W2.setCell ⟨p, 1, none⟩ v') ∧ (∀ k, k < w.heap.size → PF p v' k → PF p v k) := by
  have hw := Wrote.of_lies hl
  have hp0 : p < w.heap.size := h.lt
  have hpw : p < W.heap.size := by have := hb.size; omega
  have hvp : v.ownBlock ≠ some p := fun e => by have := (owns_block h.own e).1; omega
  have hpb : W2.heap[p]? = some (.cells #[.int .i64 m, v, .int .i64 c, .int .i64 s] 45 (0, 0)) := (hw.1.block p hpw (fun e => hvp e.symm)).trans ((hb.block p hp0).trans h.blk)
  have hsz : W.heap.size ≤ W2.heap.size := hw.1.size
  have hold : ∀ k, k < w.heap.size → ¬ PF p v k → (W2.setCell ⟨p, 1, none⟩ v').heap[k]? = w.heap[k]? := fun k hk hn =>
    (Below.heap_setCell W2 ⟨p, 1, none⟩ v' k (fun e => hn (.inl e))).trans ((hw.1.block k (by have := hb.size; omega) (fun e => hn (.inr e.symm))).trans (hb.block k hk))
  have hmv : ∀ k, k < w.heap.size → PF p v' k → PF p v k := fun k hk e => by
    rcases e with e | e
    · exact .inl e
    · rcases hw.2 with e2 | ⟨g, e2, hg⟩
      · exact .inr (e2.symm.trans e)
      · have : g = k := Option.some.inj (e2.symm.trans e)
        have := hb.size; omega
  refine ⟨⟨?_, ?_, ?_⟩, ⟨?_, ?_, ?_, ?_, hold⟩, hmv⟩
  · exact heap_setCell_same W2 p 1 _ _ v' hpb
  · have e : flat (d ++ [r]) = flat d ++ [r.kv, r.dv, .int .i64 r.c] := by rw [flat_append]; rfl
    rw [e, List.length_append]
    exact ownsRow_setCell_below hown (Nat.lt_succ_self p) v'
  · intro x hx
    have hx' : RkIn w (fun g => ¬ PF p v g) x := by
      rcases List.mem_append.1 hx with hx | hx
      · exact h.el x hx
      · rw [List.mem_singleton.1 hx]; exact hr
    exact hx'.keep (fun k hk hk2 => hold k hk2 hk) (fun k hk hk2 e => hk (hmv k hk2 e))
  · exact hw.1.os.trans hb.os
  · exact hw.1.tape.trans hb.tape
  · exact hw.1.output.trans hb.output
  · have := hb.size; show _ ≤ (W2.setCell ⟨p, 1, none⟩ v').heap.size; simp; omega
set_option maxRecDepth 100000 in
set_option maxHeartbeats 4000000 in
theorem ppush_any (r : Rk) (h : PileAt w p m c s v d) (hr : RkIn w (fun g => ¬ PF p v g) r) (hlim : d.length ≤ 100000) :
    Calls Try.prog 74 #[.pointer (some ⟨p, 1, none⟩), .iface 49 (.agg #[r.kv, r.dv, .int .i64 r.c])] w fun e w' => e = .returned (.tuple #[]) ∧ ∃ v', PileAt w' p m c s v' (d ++ [r]) ∧ RM (PF p v) w w' ∧ ∀ k, k < w.heap.size → PF p v' k → PF p v k := by
  obtain ⟨i0, hi, hz0, hz1, hz2⟩ := info_of infoR
  obtain ⟨c0, c1, c2, c3⟩ := h.cells
  have f1 := h.frozen 1
  obtain ⟨⟨x1, x2, x3, ek⟩, ⟨x4, x5, x6, ed⟩⟩ := RkIn.shapes hr
  have HM : Hid (∀ W W2 v', Below w.heap.size w W → W2.ownsRow (p + 1) 49 3 v' (d.length + 1) (flat d ++ [.slice x1 x2 x3, .slice x4 x5 x6, .int .i64 r.c]) → Lies W W2 v v' →
      PileAt (W2.setCell ⟨p, 1, none⟩ v') p m c s v' (d ++ [r]) ∧ RM (PF p v) w (W2.setCell ⟨p, 1, none⟩ v') ∧ (∀ k, k < w.heap.size → PF p v' k → PF p v k)) := fun W W2 v' hb ho hl => by
    rw [← ek, ← ed] at ho; exact push_mem h hb hr ho hl
  have HO : Hid (∀ W, Below w.heap.size w W → W.ownsRow (p + 1) 49 3 v d.length (flat d)) := fun W hW => owns_below h.own hW
  obtain ⟨va, vcap, ev⟩ := h.shape
  have hp0 := h.lt
  rw [ek, ed]
  generalize r.c = rc at HM ⊢
  subst ev
  clear h hr ek ed
  go_enter Try.func74, Try.ntmps74
  go_upto_region 2 with fail
  rw [assertR]
  simp only [Result.andThen]
  rw [Oper.upon_value]
  go_upto_region 2 with fail
  have HB0 : Hid (Below w.heap.size w (w.alloc (.cells #[.slice x1 x2 x3, .slice x4 x5 x6, .int .i64 rc] 49))) := (Below.refl _ w).alloc (Nat.le_refl _) _
  have d0 : (w.alloc (.cells #[.slice x1 x2 x3, .slice x4 x5 x6, .int .i64 rc] 49)).cell? ⟨w.heap.size, 0, none⟩ = some (.slice x1 x2 x3) := by simp
  have d1 : (w.alloc (.cells #[.slice x1 x2 x3, .slice x4 x5 x6, .int .i64 rc] 49)).cell? ⟨w.heap.size, 1, none⟩ = some (.slice x4 x5 x6) := by simp
  have d2 : (w.alloc (.cells #[.slice x1 x2 x3, .slice x4 x5 x6, .int .i64 rc] 49)).cell? ⟨w.heap.size, 2, none⟩ = some (.int .i64 rc) := by simp
  have c1' := cell_keepW HB0.out c1
  generalize w.alloc (.cells #[.slice x1 x2 x3, .slice x4 x5 x6, .int .i64 rc] 49) = w1 at HB0 d0 d1 d2 c1' ⊢
  have hb1 : Below w.heap.size w (w1.alloc (.cells #[.slice x1 x2 x3, .slice x4 x5 x6, .int .i64 rc] 49)).drew := (HB0.out.trans (((Below.refl _ w1).alloc (Nat.le_refl _) _).mono HB0.out.size)).trans ⟨rfl, rfl, rfl, Nat.le_refl _, fun _ _ => rfl⟩
  have HOWN := Lib.hid (HO.out _ hb1)
  have HNEW : Hid (∀ j u, ([.slice x1 x2 x3, .slice x4 x5 x6, .int .i64 rc] : List Value)[j]? = some u → (w1.alloc (.cells #[.slice x1 x2 x3, .slice x4 x5 x6, .int .i64 rc] 49)).drew.cell? (Addr.add ⟨w1.heap.size, 0, none⟩ j) = some u) := three_new w1 _ _ _ _
  have HSZ : Hid (p + 1 ≤ (w1.alloc (.cells #[.slice x1 x2 x3, .slice x4 x5 x6, .int .i64 rc] 49)).drew.heap.size) := by have := hb1.size; unfold Hid; omega
  have HX : Hid (∀ W2 v', Lies (w1.alloc (.cells #[.slice x1 x2 x3, .slice x4 x5 x6, .int .i64 rc] 49)).drew W2 (.slice va d.length vcap) v' → W2.cell? ⟨p, 1, none⟩ = some (.slice va d.length vcap) ∧ W2.frozen? ⟨p, 1, none⟩ = false) := fun W2 v' hl => by
    have hw := (Wrote.of_lies hl).1
    have hpv : (Value.slice va d.length vcap).ownBlock ≠ some p := fun e => by have := (owns_block HOWN.out e).1; omega
    have e := (hw.block p (by have := hb1.size; omega) (fun e => hpv e.symm)).trans (hb1.block p hp0)
    have hc : W2.cell? ⟨p, 1, none⟩ = w.cell? ⟨p, 1, none⟩ := World.cell?_of_block (a := ⟨p, 1, none⟩) e
    have hf : W2.frozen? ⟨p, 1, none⟩ = w.frozen? ⟨p, 1, none⟩ := by simp only [World.frozen?, e]
    exact ⟨hc.trans c1, hf.trans f1⟩
  have c5 : (w1.alloc (.cells #[.slice x1 x2 x3, .slice x4 x5 x6, .int .i64 rc] 49)).cell? ⟨p, 1, none⟩ = some (.slice va d.length vcap) := (hb1.cell (p := ⟨p, 1, none⟩) hp0).trans c1
  have HM1 := Lib.hid (fun W2 v' => HM.out _ W2 v' hb1)
  clear hb1 HM HO
  go_region_law (refine step_append_lies rfl (.tmp 15) (.tmp 17) 43 rfl (p + 1) 49 i0 (.agg #[.slice none 0 0, .slice none 0 0, .int .i64 0]) 3 56 Try.underlying43 hi hz0 hz1 hz2 rfl (by decide) (.slice va d.length vcap) d.length (flat d) rfl HOWN.out ⟨w1.heap.size, 0, none⟩ 1 1 [.slice x1 x2 x3, .slice x4 x5 x6, .int .i64 rc] rfl rfl (by decide) HNEW.out (three_one _ _ _ _ _ _ _) (by unfold maxLen; omega) (by omega) HSZ.out ?_; intro v4 w4 ho4 hl4; obtain ⟨a4, k4, rfl⟩ := owns_sl ho4; obtain ⟨c4, f4⟩ := HX.out w4 _ hl4; have HM4 := Lib.hid (HM1.out w4 _ ho4 hl4); clear ho4 hl4)
  all_goals (go_end0; exact ⟨rfl, _, HM4.out⟩)
/-- What Pop leaves: the row without its last. -/
theorem pop_mem {g cap n : Nat} {W : World} {d' : List Rk} {r : Rk} (h : PileAt w p m c s (.slice (some ⟨g, 0, none⟩) (n + 1) cap) (d' ++ [r])) (hn : d'.length = n) (hb : Below w.heap.size w W) :
    PileAt ((puts W g (n * 3) [.slice none 0 0, .slice none 0 0, .int .i64 0]).setCell ⟨p, 1, none⟩ (.slice (some ⟨g, 0, none⟩) n cap)) p m c s (.slice (some ⟨g, 0, none⟩) n cap) d' ∧
    RM (PF p (.slice (some ⟨g, 0, none⟩) n cap)) w ((puts W g (n * 3) [.slice none 0 0, .slice none 0 0, .int .i64 0]).setCell ⟨p, 1, none⟩ (.slice (some ⟨g, 0, none⟩) n cap)) := by
  subst hn
  have h' := h.keep hb
  have hown := h'.own
  rw [show (d' ++ [r]).length = d'.length + 1 by simp] at hown
  have hg : p < g := by have := (owns_block hown (g := g) rfl).1; omega
  have hrow : RowAt W g cap (d' ++ [r]) := (row_of (by rw [show (d' ++ [r]).length = d'.length + 1 by simp]; exact hown)).1
  have h2 := hrow.set (i := d'.length) (by simp) default
  have h2' : RowAt (puts W g (d'.length * 3) [.slice none 0 0, .slice none 0 0, .int .i64 0]) g cap ((d' ++ [r]).set d'.length default) := h2
  have e1 : Below 0 W (puts W g (d'.length * 3) [.slice none 0 0, .slice none 0 0, .int .i64 0]) := puts_below (G := g) (Below.refl _ _) (Nat.zero_le _) [.slice none 0 0, .slice none 0 0, .int .i64 0] (d'.length * 3)
  have q1 := fun k (hk : k ≠ g) => puts_other g k hk [.slice none 0 0, .slice none 0 0, .int .i64 0] W (d'.length * 3)
  generalize puts W g (d'.length * 3) [.slice none 0 0, .slice none 0 0, .int .i64 0] = W1 at h2' e1 q1 ⊢
  clear h2
  have hpb : W1.heap[p]? = some (.cells #[.int .i64 m, .slice (some ⟨g, 0, none⟩) (d'.length + 1) cap, .int .i64 c, .int .i64 s] 45 (0, 0)) := (q1 p (by omega)).trans h'.blk
  have hold : ∀ k, k < w.heap.size → ¬ PF p (.slice (some ⟨g, 0, none⟩) d'.length cap) k → (W1.setCell ⟨p, 1, none⟩ (.slice (some ⟨g, 0, none⟩) d'.length cap)).heap[k]? = w.heap[k]? := fun k hk hn =>
    (Below.heap_setCell W1 ⟨p, 1, none⟩ _ k (fun e => hn (.inl e))).trans ((q1 k (fun e => hn (.inr (by rw [e]; rfl)))).trans (hb.block k hk))
  refine ⟨⟨heap_setCell_same W1 p 1 _ _ _ hpb, ?_, fun x hx => ?_⟩, ⟨e1.os.trans hb.os, e1.tape.trans hb.tape, e1.output.trans hb.output, ?_, hold⟩⟩
  · refine ownsRow_setCell_below ?_ (Nat.lt_succ_self p) _
    have h3 := h2'.owns (base := p + 1) (by omega)
    have e : (d' ++ [r]).set d'.length default = d' ++ [default] := by
      rw [List.set_append_right _ _ (Nat.le_refl _), Nat.sub_self]; rfl
    rw [e, show (d' ++ [(default : Rk)]).length = d'.length + 1 by simp, flat_append] at h3
    exact ownsRow_pop (flat_length d') h3
  · exact (h.el x (List.mem_append_left _ hx)).keep (fun k hk hk2 => hold k hk2 hk) (fun k hk _ => hk)
  · have := hb.size; have := e1.size; show _ ≤ (W1.setCell ⟨p, 1, none⟩ _).heap.size; simp; omega
set_option maxRecDepth 100000 in
set_option maxHeartbeats 4000000 in
theorem ppop_any (d' : List Rk) (r : Rk) (h : PileAt w p m c s v (d' ++ [r])) :
    Calls Try.prog 73 #[.pointer (some ⟨p, 1, none⟩)] w fun e w' => e = .returned (.iface 49 (.agg #[r.kv, r.dv, .int .i64 r.c])) ∧ ∃ v', PileAt w' p m c s v' d' ∧ RM (PF p v) w w' ∧ ∀ k, PF p v' k → PF p v k := by
  obtain ⟨g, cap, rfl, hpg, hrow⟩ := h.row (by simp)
  obtain ⟨n, hn⟩ : ∃ n, n = d'.length := ⟨_, rfl⟩
  have hl : (d' ++ [r]).length = n + 1 := by simp [hn]
  rw [hl] at h ⊢
  obtain ⟨c0, c1, c2, c3⟩ := h.cells
  have f1 := h.frozen 1
  have hcell := hrow.cell (i := n) (by omega)
  have hgr : (d' ++ [r])[n]'(by omega) = r := by simp [hn]
  rw [hgr] at hcell
  obtain ⟨a0, a1, a2⟩ := hcell
  have g0 := hrow.frozen (n * 3); have g1 := hrow.frozen (n * 3 + 1); have g2 := hrow.frozen (n * 3 + 2)
  obtain ⟨⟨x1, x2, x3, ek⟩, ⟨x4, x5, x6, ed⟩⟩ := RkIn.shapes (h.el r (by simp))
  have HM : Hid (∀ W, Below w.heap.size w W → _) := fun W hb => pop_mem (W := W) h hn.symm hb
  rw [ek, ed]
  rw [ek] at a0; rw [ed] at a1
  generalize r.c = rc at a2 ⊢
  have hn1 : (n : Int) < ((n + 1 : Nat) : Int) := by omega
  have hn63 : n ≤ 9223372036854775806 := by have := hrow.cap; unfold maxLen at this; omega
  have hncap : (n : Int) ≤ (cap : Int) := by have := hrow.cap; omega
  have hncap2 : n ≤ cap := by omega
  have hgw : g < w.heap.size := hrow.lt
  have hpw : p < w.heap.size := h.lt
  clear h hrow hgr hl hn ek ed
  go_enter Try.func73, Try.ntmps73
  go_upto_region 3 with fail
  have hb : Below w.heap.size w (w.alloc (.cells #[.slice x1 x2 x3, .slice x4 x5 x6, .int .i64 rc] 49)) := (Below.refl _ w).alloc (Nat.le_refl _) _
  have z0 : (w.alloc (.cells #[.slice x1 x2 x3, .slice x4 x5 x6, .int .i64 rc] 49)).cell? ⟨w.heap.size, 0, none⟩ = some (.slice x1 x2 x3) := by simp
  have z1 : (w.alloc (.cells #[.slice x1 x2 x3, .slice x4 x5 x6, .int .i64 rc] 49)).cell? ⟨w.heap.size, 1, none⟩ = some (.slice x4 x5 x6) := by simp
  have z2 : (w.alloc (.cells #[.slice x1 x2 x3, .slice x4 x5 x6, .int .i64 rc] 49)).cell? ⟨w.heap.size, 2, none⟩ = some (.int .i64 rc) := by simp
  have c1 := cell_keepW hb c1
  have a0 := cell_keepW hb a0; have a1 := cell_keepW hb a1; have a2 := cell_keepW hb a2
  have fz : ∀ b o, b < w.heap.size → (w.alloc (.cells #[.slice x1 x2 x3, .slice x4 x5 x6, .int .i64 rc] 49)).frozen? ⟨b, o, none⟩ = w.frozen? ⟨b, o, none⟩ := fun b o hbl => by simp only [World.frozen?, hb.block b hbl]
  have f1 := (fz p 1 hpw).trans f1
  have g0 := (fz g (n * 3) hgw).trans g0; have g1 := (fz g (n * 3 + 1) hgw).trans g1; have g2 := (fz g (n * 3 + 2) hgw).trans g2
  have HM1 := Lib.hid (HM.out _ hb)
  have n1 : ¬ p = g := by omega
  have n2 : ¬ g = p := by omega
  have n3 : ¬ g = w.heap.size := by omega
  have n4 : ¬ p = w.heap.size := by omega
  clear HM fz hb
  generalize w.alloc (.cells #[.slice x1 x2 x3, .slice x4 x5 x6, .int .i64 rc] 49) = w1 at HM1 z0 z1 z2 c1 a0 a1 a2 f1 g0 g1 g2 ⊢
  go_wp2_with fail
  go_ret
  exact ⟨rfl, _, HM1.out.1, HM1.out.2, fun _ e => e⟩
end
end Go.Proofs.Ytfkkckadnookoaa
