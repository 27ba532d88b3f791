/- aqueductlaw13.Made, Same. -/
import Derived.Test.YtfkkckadnookoaaTopAwake
import Derived.Test.YtfkkckadnookoaaBsonApp
namespace Go.Proofs.Ytfkkckadnookoaa
open Go.RowKit
open Seal
theorem wp_append {P : Program} {o : Oper} {a : Act} {w : World} {K : Act → World → Prop} {Q : Exit → Act → World → Prop} (s x : Operand) (t : TypeId) (ho : o.op = .call { callee := .builtin .append, args := #[s, x], argTypes := #[t, t] }) (sv xv : Value) (hs : a.eval s = sv) (hx : a.eval x = xv) {v' : Value} {w' : World}
    (hr : (Builtin.append_ #[t, t] o.type #[sv, xv]).run P w = .ok v' w') (h : K (a.put o.dst v') w') : Oper.wp P o a w K Q := by
  unfold Oper.wp execOp
  simp only [ho, resolve, invoke, builtin, Sem.run_bind, Sem.run_pure, Result.andThen_ok, List.map_toArray, List.map_cons, List.map_nil, hs, hx, hr]
  exact h
set_option maxRecDepth 100000 in
theorem infoB : (Try.prog.info? 5).map (fun i => (i.zero, i.size, i.bytes)) = some (some (.int .u8 0), 1, 1) := by kernel_rfl
theorem sl_owns {w : World} {base : Nat} {v : Value} {l : List Nat} (h : w.ownsRow base 5 1 v l.length (u8s l)) (ho : Oct l) (hl : l.length ≤ 10000) : SlQ w (fun g => base ≤ g) v l := by
  obtain ⟨_, ⟨rfl, h0⟩ | ⟨g, cap, cur, rfl, hg, hrow, hc, hm, hsz, htake⟩⟩ := h
  · have hn := List.eq_nil_of_length_eq_zero h0
    subst hn
    exact ⟨⟨none, 0, rfl, ⟨Nat.le_refl _, by omega⟩, .inl rfl⟩, ho, hl⟩
  · refine ⟨⟨_, cap, rfl, ⟨hc, by unfold maxLen at hm; omega⟩, .inr ⟨g, 0, rfl, hg, fun j hj => ?_⟩⟩, ho, hl⟩
    have e1 : cur.toList[j]? = (u8s l)[j]? := by rw [← htake, List.getElem?_take_of_lt (by omega)]
    rw [Nat.zero_add, cell_of_row w g j _ _ _ hrow, ← Array.getElem?_toList, e1]
    simp [u8s, u8, List.getD_eq_getElem?_getD, hj]
theorem appB {w : World} {Q : Nat → Prop} {a : Option Addr} {n c : Nat} {l : List Nat} (h : SlQ w Q (.slice a n c) l) : ∃ v' w', (Builtin.append_ #[28, 28] 28 #[.slice none 0 0, .slice a n c]).run Try.prog w = .ok v' w' ∧ SlQ w' (fun g => w.heap.size ≤ g) v' l ∧ Below w.heap.size w w' := by
  obtain ⟨i0, hi, hz0, hz1, hz2⟩ := info_of infoB
  obtain ⟨⟨a', c', e, hc, hr⟩, ho, hl⟩ := h
  cases e
  have hsrc : Src w a l.length (u8s l) := by
    refine ⟨fun e => ?_, fun ad e j u hu => ?_⟩
    · rcases hr with rfl | ⟨g, o, e2, _⟩
      · rfl
      · rw [e] at e2; cases e2
    · have hjl : j < l.length := by have := (List.getElem?_eq_some_iff.1 hu).1; simpa [u8s] using this
      rcases hr with rfl | ⟨g, o, e2, _, hrd⟩
      · cases hjl
      · rw [e] at e2; cases e2
        have ea : (⟨g, o, none⟩ : Addr).add j = ⟨g, o + j, none⟩ := by unfold Addr.add; split <;> simp_all
        rw [ea, hrd j hjl]
        simp [u8s, u8, List.getElem?_eq_getElem hjl, List.getD_eq_getElem?_getD] at hu ⊢
        exact hu
  obtain ⟨v', w', h1, h2, h3⟩ := run_src (P := Try.prog) w w.heap.size 28 28 5 i0 (.int .u8 0) 1 1 Try.underlying28 hi hz0 hz1 hz2 rfl (by decide) (.slice none 0 0) 0 [] (World.ownsRow_nil _ _ _ _) a l.length c (u8s l) hsrc (by simp [u8s]) (fun u hu => by
    simp only [u8s, List.mem_map] at hu
    obtain ⟨x, _, rfl⟩ := hu; rfl) (by unfold maxLen; omega) (by omega) (Nat.le_refl _)
  rw [Nat.zero_add, List.nil_append] at h2
  exact ⟨v', w', h1, sl_owns h2 ho hl, ⟨h3.os, h3.tape, h3.output, h3.size, fun k hk => h3.block k hk (fun e => by cases e)⟩⟩
set_option maxRecDepth 100000 in
set_option maxHeartbeats 4000000 in
theorem made_any (w : World) (Q : Nat → Prop) (kv dv : Value) (k d : List Nat) (hk : SlQ w Q kv k) (hd : SlQ w Q dv d) :
    Calls Try.prog 10 #[.agg #[kv, dv]] w fun e w' => ∃ kv' dv', e = .returned (.agg #[kv', dv']) ∧ SlQ w' (fun g => w.heap.size ≤ g) kv' k ∧ SlQ w' (fun g => w.heap.size ≤ g) dv' d ∧ Below w.heap.size w w' := by
  obtain ⟨ka, kc, ek⟩ := hk.shape
  obtain ⟨da, dc, ed⟩ := hd.shape
  have HK := Lib.hid hk; have HD := Lib.hid hd
  obtain ⟨kn, hkn⟩ : ∃ n, n = k.length := ⟨_, rfl⟩
  obtain ⟨dn, hdn⟩ : ∃ n, n = d.length := ⟨_, rfl⟩
  rw [← hkn] at ek; rw [← hdn] at ed
  subst ek; subst ed
  have HN := Lib.hid (And.intro hkn hdn)
  clear hk hd hkn hdn
  go_enter Try.func10, Try.ntmps10
  go_upto_region 1 with fail
  have HB0 : Hid (Below w.heap.size w ((w.alloc (.cells #[.slice ka kn kc, .slice da dn dc] 32)).alloc (.cells #[.slice none 0 0, .slice none 0 0] 30))) := ((Below.refl _ w).alloc (Nat.le_refl _) _).alloc (by simp) _
  have HX : Hid (((w.alloc (.cells #[.slice ka kn kc, .slice da dn dc] 32)).alloc (.cells #[.slice none 0 0, .slice none 0 0] 30)).heap[w.heap.size]? = some (.cells #[.slice ka kn kc, .slice da dn dc] 32 (0, 0)) ∧ ((w.alloc (.cells #[.slice ka kn kc, .slice da dn dc] 32)).alloc (.cells #[.slice none 0 0, .slice none 0 0] 30)).heap[w.heap.size + 1]? = some (.cells #[.slice none 0 0, .slice none 0 0] 30 (0, 0))) :=
    ⟨(Below.heap_alloc _ _ _ (by simp)).trans (heap_alloc_new w _), by have := heap_alloc_new (w.alloc (.cells #[.slice ka kn kc, .slice da dn dc] 32)) (.cells #[.slice none 0 0, .slice none 0 0] 30); simpa using this⟩
  generalize (w.alloc _).alloc _ = W0 at HB0 HX ⊢
  have HZ : Hid (w.heap.size + 1 < W0.heap.size) := (Array.getElem?_eq_some_iff.1 HX.out.2).1
  refine wp_region_sink 7 (fun V => { tmps := #[.agg #[.slice ka kn kc, .slice da dn dc], .pointer (some ⟨w.heap.size, 0, none⟩), .pointer (some ⟨w.heap.size + 1, 0, none⟩), V 0, V 1, V 2, V 3, V 4, V 5, V 6], defers := [] }) [Fact.is (.pointer (some ⟨w.heap.size, 0, none⟩)), Fact.is (.slice ka kn kc), slF W0.heap.size k, Fact.is (.pointer (some ⟨w.heap.size, 1, none⟩)), Fact.is (.slice da dn dc), slF W0.heap.size d, itF W0.heap.size k d] rfl (by kernel_rfl) (by kernel_rfl) (by kernel_rfl) (by kernel_rfl) (by kernel_rfl) rfl (fun V => by kernel_rfl) ?_ ?_
  · refine ⟨?_, ?_⟩
    · refine fact_free rfl (fun V w1 hB hF K hK => ?_)
      go_simp
      exact put_is (by kernel_rfl) (hK.out (.pointer (some ⟨w.heap.size, 0, none⟩)) w1 (Below.refl _ _) rfl)
    refine ⟨?_, ?_⟩
    · refine fact_free rfl (fun V w1 hB hF K hK => ?_)
      have h0 : V 0 = .pointer (some ⟨w.heap.size, 0, none⟩) := hF.out 0 (by kernel_rfl)
      have hb1 := hB.block w.heap.size (by have := HZ.out; omega)
      have y0 : w1.cell? ⟨w.heap.size, 0, none⟩ = some (.slice ka kn kc) := (cell_of_row w1 _ 0 _ _ _ (hb1.trans HX.out.1)).trans rfl
      have y1 : w1.cell? ⟨w.heap.size, 1, none⟩ = some (.slice da dn dc) := (cell_of_row w1 _ 1 _ _ _ (hb1.trans HX.out.1)).trans rfl
      go_simp
      exact put_is (by rw [h0]; kernel_rfl) (hK.out (.slice ka kn kc) w1 (Below.refl _ _) rfl)
    refine ⟨?_, ?_⟩
    · refine fact_free rfl (fun V w1 hB hF K hK => ?_)
      have h1 : V 1 = .slice ka kn kc := hF.out 1 (by kernel_rfl)
      have hsl : SlQ w1 (fun _ => True) (V 1) k := by rw [h1]; exact (HK.out.keep (fun g _ hg => (hB.block g (by have := HB0.out.size; omega)).trans (HB0.out.block g hg)) (fun _ _ _ => trivial))
      rw [h1] at hsl
      obtain ⟨v2, w2, hr2, hs2, hb2⟩ := appB hsl
      exact wp_append _ _ _ rfl (.slice none 0 0) _ rfl h1 hr2 (hK.out v2 w2 hb2 (hs2.mono (fun g hg _ => Nat.le_trans hB.size hg)))
    refine ⟨?_, ?_⟩
    · refine fact_free rfl (fun V w1 hB hF K hK => ?_)
      go_simp
      exact put_is (by kernel_rfl) (hK.out (.pointer (some ⟨w.heap.size, 1, none⟩)) w1 (Below.refl _ _) rfl)
    refine ⟨?_, ?_⟩
    · refine fact_free rfl (fun V w1 hB hF K hK => ?_)
      have h3 : V 3 = .pointer (some ⟨w.heap.size, 1, none⟩) := hF.out 3 (by kernel_rfl)
      have hb1 := hB.block w.heap.size (by have := HZ.out; omega)
      have y0 : w1.cell? ⟨w.heap.size, 0, none⟩ = some (.slice ka kn kc) := (cell_of_row w1 _ 0 _ _ _ (hb1.trans HX.out.1)).trans rfl
      have y1 : w1.cell? ⟨w.heap.size, 1, none⟩ = some (.slice da dn dc) := (cell_of_row w1 _ 1 _ _ _ (hb1.trans HX.out.1)).trans rfl
      go_simp
      exact put_is (by rw [h3]; kernel_rfl) (hK.out (.slice da dn dc) w1 (Below.refl _ _) rfl)
    refine ⟨?_, ?_⟩
    · refine fact_free rfl (fun V w1 hB hF K hK => ?_)
      have h4 : V 4 = .slice da dn dc := hF.out 4 (by kernel_rfl)
      have hsl : SlQ w1 (fun _ => True) (V 4) d := by rw [h4]; exact (HD.out.keep (fun g _ hg => (hB.block g (by have := HB0.out.size; omega)).trans (HB0.out.block g hg)) (fun _ _ _ => trivial))
      rw [h4] at hsl
      obtain ⟨v2, w2, hr2, hs2, hb2⟩ := appB hsl
      exact wp_append _ _ _ rfl (.slice none 0 0) _ rfl h4 hr2 (hK.out v2 w2 hb2 (hs2.mono (fun g hg _ => Nat.le_trans hB.size hg)))
    refine ⟨?_, ?_⟩
    · refine fact_free rfl (fun V w1 hB hF K hK => ?_)
      have h2f : SlQ w1 (fun g => W0.heap.size ≤ g) (V 2) k := hF.out 2 (by kernel_rfl)
      obtain ⟨q2, h2⟩ : ∃ z, V 2 = z := ⟨_, rfl⟩
      rw [h2] at h2f
      obtain ⟨qa2, qc2, hq2⟩ := h2f.shape
      obtain ⟨qn2, hn2⟩ : ∃ n, n = (k : List Nat).length := ⟨_, rfl⟩
      rw [← hn2] at hq2
      subst hq2
      clear hn2
      have h5f : SlQ w1 (fun g => W0.heap.size ≤ g) (V 5) d := hF.out 5 (by kernel_rfl)
      obtain ⟨q5, h5⟩ : ∃ z, V 5 = z := ⟨_, rfl⟩
      rw [h5] at h5f
      obtain ⟨qa5, qc5, hq5⟩ := h5f.shape
      obtain ⟨qn5, hn5⟩ : ∃ n, n = (d : List Nat).length := ⟨_, rfl⟩
      rw [← hn5] at hq5
      subst hq5
      clear hn5
      go_simp
      exact put_is (by rw [h2, h5]; kernel_rfl) (hK.out (.agg #[.slice qa2 qn2 qc2, .slice qa5 qn5 qc5]) w1 (Below.refl _ _) (⟨_, _, rfl, h2f, h5f⟩))
    trivial
  · intro V w1 hB hF K hK
    obtain ⟨k2, d2, h6, hk2, hd2⟩ : ∃ kv dv, V 6 = .agg #[kv, dv] ∧ SlQ w1 (fun g => W0.heap.size ≤ g) kv k ∧ SlQ w1 (fun g => W0.heap.size ≤ g) dv d := hF.out 6 (by decide)
    obtain ⟨k3, k4, ek2⟩ := hk2.shape
    obtain ⟨d3, d4, ed2⟩ := hd2.shape
    subst ek2
    subst ed2
    have hb1 := (hB.block (w.heap.size + 1) HZ.out).trans HX.out.2
    have y0 : w1.cell? ⟨w.heap.size + 1, 0, none⟩ = some (.slice none 0 0) := (cell_of_row w1 _ 0 _ _ _ hb1).trans rfl
    have y1 : w1.cell? ⟨w.heap.size + 1, 1, none⟩ = some (.slice none 0 0) := (cell_of_row w1 _ 1 _ _ _ hb1).trans rfl
    have f0 := frozen_of_row w1 _ 0 _ _ hb1
    have f1 := frozen_of_row w1 _ 1 _ _ hb1
    have HW1 : Hid (Below w.heap.size w w1) := HB0.out.trans (hB.mono HB0.out.size)
    have HM : Hid (∀ g, g < w1.heap.size → g ≠ w.heap.size + 1 → (puts w1 (w.heap.size + 1) 0 [.slice k3 k.length k4, .slice d3 d.length d4]).heap[g]? = w1.heap[g]?) := fun g _ hg => puts_other _ g hg _ _ _
    rw [h6]
    go_simp
    refine put_is (by rw [h6]; kernel_rfl) (hK.out undef _ ?_)
    have HB9 : Hid (Below w.heap.size w (puts w1 (w.heap.size + 1) 0 [.slice k3 k.length k4, .slice d3 d.length d4])) := puts_below HW1.out (by omega) _ _
    have HW9 : Hid ((puts w1 (w.heap.size + 1) 0 [.slice k3 k.length k4, .slice d3 d.length d4]).heap[w.heap.size + 1]? = some (.cells #[.slice k3 k.length k4, .slice d3 d.length d4] 30 (0, 0))) := by
      have q := heap_setCell_same w1 (w.heap.size + 1) 0 _ _ (.slice k3 k.length k4) hb1
      exact heap_setCell_same _ (w.heap.size + 1) 1 _ _ (.slice d3 d.length d4) q
    have HK9 : Hid (SlQ (puts w1 (w.heap.size + 1) 0 [.slice k3 k.length k4, .slice d3 d.length d4]) (fun g => w.heap.size ≤ g) (.slice k3 k.length k4) k) := by
      exact hk2.keep (fun g hg hl => HM.out g hl (by have := HZ.out; omega)) (fun g hg _ => Nat.le_trans HB0.out.size hg)
    have HD9 : Hid (SlQ (puts w1 (w.heap.size + 1) 0 [.slice k3 k.length k4, .slice d3 d.length d4]) (fun g => w.heap.size ≤ g) (.slice d3 d.length d4) d) := by
      exact hd2.keep (fun g hg hl => HM.out g hl (by have := HZ.out; omega)) (fun g hg _ => Nat.le_trans HB0.out.size hg)
    have HC9 := Lib.hid (And.intro ((cell_of_row _ _ 0 _ _ _ HW9.out).trans rfl) ((cell_of_row _ _ 1 _ _ _ HW9.out).trans rfl))
    simp only [puts, World.setCells, Nat.zero_add] at HB9 HW9 HK9 HD9 HC9
    clear hK K hF HM hk2 hd2 hb1 y0 y1 f0 f1
    generalize (w1.setCell { block := w.heap.size + 1, off := 0 } (.slice k3 k.length k4)).setCell { block := w.heap.size + 1, off := 1 } (.slice d3 d.length d4) = w9 at HB9 HW9 HK9 HD9 HC9 ⊢
    obtain ⟨p0, p1⟩ := HC9.out
    go_wp2_with fail
    simp only [Act.put]
    exact bodyPost_ret (v := .agg #[.slice k3 k.length k4, .slice d3 d.length d4]) (by simp [results, Try.results10, go_sem, p0, p1]) rfl ⟨_, _, rfl, HK9.out, HD9.out, HB9.out⟩
end Go.Proofs.Ytfkkckadnookoaa
