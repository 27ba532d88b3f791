/- BsonRMeth. -/
import Derived.Test.YtdihelpimpkfoaaDoorMg35
import Derived.Test.YtdihelpimpkfoaaDoorMg20
set_option maxRecDepth 100000
section
namespace Go.Proofs.YtdihelpimpkfoaaDoor
open Go.RowKit
open Seal
open Bson (Val)
theorem six_kept {w : World} {B : Nat} (v0 v1 v2 v3 v4 v5 : Value) : Kept (fun g => B + 1 ≤ g) w (six w B v0 v1 v2 v3 v4 v5) := fun g hg _ => by
  have hne : g ≠ B := by have h1 : B + 1 ≤ g := hg; omega
  exact (Below.heap_setCell _ ⟨B, 5, none⟩ v5 g hne).trans ((Below.heap_setCell _ ⟨B, 4, none⟩ v4 g hne).trans ((Below.heap_setCell _ ⟨B, 3, none⟩ v3 g hne).trans ((Below.heap_setCell _ ⟨B, 2, none⟩ v2 g hne).trans ((Below.heap_setCell _ ⟨B, 1, none⟩ v1 g hne).trans (Below.heap_setCell _ ⟨B, 0, none⟩ v0 g hne)))))
theorem docV_in {w' : World} {B : Nat} {fs : List (ByteArray × Val)} {v v0 v1 v2 v3 v4 v5 : Value} (h : FldV (B + 1) w' fs v) : ValV B (six w' B v0 v1 v2 v3 v4 v5) (.mk 6 0 Bson.none_ [] fs []) (.agg #[.int .i64 6, .int .i64 0, .string ⟨#[]⟩, .slice none 0 0, v, .slice none 0 0]) := by
  obtain ⟨h0, hh, a, c, rfl, hc, hF⟩ := h
  refine ⟨hh + 1, none, a, none, 0, c, 0, rfl, ⟨by show (-9223372036854775808 : Int) ≤ 6; decide, by show (6 : Int) ≤ 9223372036854775807; decide, by show (-9223372036854775808 : Int) ≤ 0; decide, by show (0 : Int) ≤ 9223372036854775807; decide, Nat.zero_le _, Nat.zero_le _, by show fs.length ≤ 1172812402961; omega, Nat.zero_le _, fun c hc => by cases hc⟩, ⟨Nat.le_refl _, by omega⟩, hc, ⟨Nat.le_refl _, by omega⟩, .inl rfl, ?_, .inl rfl⟩
  exact hF.kept (six_kept v0 v1 v2 v3 v4 v5) (fun g hg => Nat.le_of_succ_le hg) (fun _ _ z => VIn.kept (six_kept v0 v1 v2 v3 v4 v5) (fun g hg => Nat.le_of_succ_le hg) z)
set_option maxRecDepth 100000 in
set_option maxHeartbeats 2000000 in
theorem rdoc_any (d : Nat) (dp : Int) (hd0 : 1 ≤ dp) (hd1 : dp ≤ 32) (w : World) (gr : Nat) (ba : Option Addr) (bc : Nat) (b : List Nat) (k : Nat) (VAL : b ≠ [] → AllRead d (dp + 1) gr ba bc b) (hR : Rdr w gr ba bc b k) (hT : Tabs w) :
    Reads_ zeroV (ValV w.heap.size) 15 #[.pointer (some ⟨gr, 0, none⟩), .int .i64 dp] w gr ba bc b (Bson.doc (d + 1) false (if dp = 1 then some b.length else none) (b.drop k)) := by
  have hR0 := hR.alloc (.cells zeroCs 28 (0, 0))
  have hlt := hR.lt
  have H := fields_any d dp hd0 hd1 false _ gr ba bc b k VAL hR0 (hT.below ((Below.refl _ w).alloc (Nat.le_refl _) (.cells zeroCs 28 (0, 0))))
  rw [show (w.alloc (.cells zeroCs 28 (0, 0))).heap.size = w.heap.size + 1 by simp] at H
  refine Reads_.of ?_
  rw [Bson.doc_fields]
  clear hR hR0 hT
  cases hres : Bson.fieldsRes d false (if dp = 1 then some b.length else none) (b.drop k) with
  | err n =>
    have hn0 := Bson.told_fields d false _ _ n hres
    have hni : ((n : Int) != 0) = true := by rw [bne_iff_ne]; omega
    rw [hres] at H
    unfold RPost ErrPost at H
    have hT := Lib.hid H
    clear H hres
    show Calls _ _ _ _ (ErrPost zeroV w gr n)
    go_enter Tryd.func15, Tryd.ntmps15
    go_wp2_with fail
    refine hT.out.mono ?_
    rintro e' w' ⟨rfl, hg⟩
    have HF := Lib.hid ((Fresh.new w).grown hg hlt)
    have HG := Lib.hid (grown_trans (grown_box _) hg)
    clear hg
    obtain ⟨d0, f0⟩ := HF.out.cells 0 _ rfl
    obtain ⟨d1, f1⟩ := HF.out.cells 1 _ rfl
    obtain ⟨d2, f2⟩ := HF.out.cells 2 _ rfl
    obtain ⟨d3, f3⟩ := HF.out.cells 3 _ rfl
    obtain ⟨d4, f4⟩ := HF.out.cells 4 _ rfl
    obtain ⟨d5, f5⟩ := HF.out.cells 5 _ rfl
    go_wp2_with fail
    exact bodyPost_ret (v := .tuple #[zeroV, .int .i64 (n : Int)]) (by simp [results, Tryd.results15, go_sem, zeroV, *]) rfl (fin_err HG.out _ _ _ _ _ _ rfl)
  | ok fs r =>
    rw [hres] at H
    unfold RPost OkPost at H
    have hT := Lib.hid H
    clear H hres
    show Calls _ _ _ _ (OkPost (ValV w.heap.size) w gr ba bc b (Bson.shut false fs) r)
    go_enter Tryd.func15, Tryd.ntmps15
    go_wp2_with fail
    refine hT.out.mono ?_
    rintro e' w' ⟨v, k', rfl, hV, hr, hR', hg⟩
    have HF := Lib.hid ((Fresh.new w).grown hg hlt)
    have HG := Lib.hid (grown_trans (grown_box _) hg)
    have HR' := Lib.hid hR'
    have HRR := Lib.hid hr
    have HV := Lib.hid hV
    obtain ⟨_, _, a, c, rfl, _⟩ := hV
    clear hg hr hR'
    obtain ⟨d0, f0⟩ := HF.out.cells 0 _ rfl
    obtain ⟨d1, f1⟩ := HF.out.cells 1 _ rfl
    obtain ⟨d2, f2⟩ := HF.out.cells 2 _ rfl
    obtain ⟨d3, f3⟩ := HF.out.cells 3 _ rfl
    obtain ⟨d4, f4⟩ := HF.out.cells 4 _ rfl
    obtain ⟨d5, f5⟩ := HF.out.cells 5 _ rfl
    go_wp2_with fail
    exact bodyPost_ret (v := .tuple #[.agg #[.int .i64 6, .int .i64 0, .string ⟨#[]⟩, .slice none 0 0, .slice a fs.length c, .slice none 0 0], .int .i64 0]) (by simp [results, Tryd.results15, go_sem, *]) rfl (fin_ok hlt HF.out HR'.out HG.out _ _ _ _ _ _ (docV_in HV.out) HRR.out)
theorem accBeside {w w' : World} {base : Nat} {v : Value} {QA : Nat → Prop} {H : Nat} {ys : List Val} {xs : List Value} {G : Nat} (ha : Acc w base v QA H ys xs) (hk : ∀ g, g ≠ G → w'.heap[g]? = w.heap[g]?) (hG : ¬ QA G) (hv : v.ownBlock ≠ some G) : Acc w' base v QA H ys xs := by
  refine ⟨?_, fun i hi => ?_⟩
  · obtain ⟨h1, h2 | ⟨g, cap, cur, e, hg, hrow, h3⟩⟩ := ha.own
    · exact ⟨h1, .inl h2⟩
    · refine ⟨h1, .inr ⟨g, cap, cur, e, hg, (hk g (fun e2 => hv (by rw [e, e2]; rfl))).trans hrow, h3⟩⟩
  · obtain ⟨c0, c1, c2, c3, c4, c5, h0, h1, h2, h3, h4, h5, hV⟩ := ha.at' i hi
    exact ⟨c0, c1, c2, c3, c4, c5, h0, h1, h2, h3, h4, h5, hV.kept (fun g hg _ => hk g (fun e => hG (e ▸ hg.1))) (fun _ hg => hg)⟩
theorem rowSet6 {w : World} {G : Nat} {t : TypeId} {c0 c1 c2 c3 c4 c5 u : Value} (h : w.heap[G]? = some (.cells #[c0, c1, c2, c3, c4, c5] t (0, 0))) : (w.setCell ⟨G, 5, none⟩ u).heap[G]? = some (.cells #[c0, c1, c2, c3, c4, u] t (0, 0)) := by
  rw [heap_setCell_same w G 5 _ t u h]; rfl
theorem rowShape {w : World} {base : Nat} {e : TypeId} {size n : Nat} {v : Value} {xs : List Value} (h : w.ownsRow base e size v n xs) : ∃ a c, v = .slice a n c ∧ n ≤ c ∧ c ≤ maxLen ∧ ∀ g, v.ownBlock = some g → base ≤ g ∧ g < w.heap.size := by
  rcases id h with ⟨_, ⟨rfl, rfl⟩ | ⟨g, cap, cur, rfl, _, _, h1, h2, _⟩⟩
  · exact ⟨none, 0, rfl, Nat.le_refl _, by unfold maxLen; omega, fun g e => by cases e⟩
  · exact ⟨_, cap, rfl, h1, h2, h.lt⟩
theorem sixNew (w : World) (c0 c1 c2 c3 c4 c5 : Value) (t : TypeId) : ∀ j u, ([c0, c1, c2, c3, c4, c5] : List Value)[j]? = some u → (w.alloc (.cells #[c0, c1, c2, c3, c4, c5] t)).cell? (Addr.add ⟨w.heap.size, 0, none⟩ j) = some u := by
  intro j u hj
  have e : (Addr.add ⟨w.heap.size, 0, none⟩ j) = ⟨w.heap.size, j, none⟩ := by unfold Addr.add; split <;> simp_all
  rw [e, cell_of_row _ _ j _ _ _ (heap_alloc_new w _)]
  rw [← hj]; simp
theorem sixOne (k n : Int) (s : ByteArray) (ba fa la : Option Addr) (bl bc fl fc ll lc : Nat) : ∀ u ∈ ([.int .i64 k, .int .i64 n, .string s, .slice ba bl bc, .slice fa fl fc, .slice la ll lc] : List Value), u.oneCell' = true := by
  intro u hu
  simp only [List.mem_cons, List.not_mem_nil, or_false] at hu
  rcases hu with rfl | rfl | rfl | rfl | rfl | rfl <;> rfl
theorem infoVal : (Tryd.prog.info? 28).map (fun i => (i.zero, i.size, i.bytes)) = some (some (.agg #[.int .i64 0, .int .i64 0, .string ⟨#[]⟩, .slice none 0 0, .slice none 0 0, .slice none 0 0]), 6, 104) := by kernel_rfl
set_option maxRecDepth 100000 in
set_option maxHeartbeats 2000000 in
theorem rlist_any (d : Nat) (dp : Int) (hd0 : 1 ≤ dp) (hd1 : dp ≤ 32) (w : World) (gr : Nat) (ba : Option Addr) (bc : Nat) (b : List Nat) (k : Nat) (VAL : b ≠ [] → AllRead d (dp + 1) gr ba bc b) (hR : Rdr w gr ba bc b k) (hT : Tabs w) :
    Reads_ zeroV (ValV w.heap.size) 50 #[.pointer (some ⟨gr, 0, none⟩), .int .i64 dp] w gr ba bc b (Bson.doc (d + 1) true (if dp = 1 then some b.length else none) (b.drop k)) := by
  obtain ⟨i0, hi, hz0, hz1, hz2⟩ := info_parts infoVal
  have hR0 := hR.alloc (.cells zeroCs 28 (0, 0))
  have hlt := hR.lt
  have H := fields_any d dp hd0 hd1 true _ gr ba bc b k VAL hR0 (hT.below ((Below.refl _ w).alloc (Nat.le_refl _) (.cells zeroCs 28 (0, 0))))
  rw [show (w.alloc (.cells zeroCs 28 (0, 0))).heap.size = w.heap.size + 1 by simp] at H
  refine Reads_.of ?_
  rw [Bson.doc_fields]
  clear hR hR0 hT
  cases hres : Bson.fieldsRes d true (if dp = 1 then some b.length else none) (b.drop k) with
  | err n =>
    have hn0 := Bson.told_fields d true _ _ n hres
    have hni : ((n : Int) != 0) = true := by rw [bne_iff_ne]; omega
    rw [hres] at H
    unfold RPost ErrPost at H
    have hT := Lib.hid H
    clear H hres
    show Calls _ _ _ _ (ErrPost zeroV w gr n)
    go_enter Tryd.func50, Tryd.ntmps50
    go_wp2_with fail
    refine hT.out.mono ?_
    rintro e' w' ⟨rfl, hg⟩
    have HF := Lib.hid ((Fresh.new w).grown hg hlt)
    have HG := Lib.hid (grown_trans (grown_box _) hg)
    clear hg
    obtain ⟨d0, f0⟩ := HF.out.cells 0 _ rfl
    obtain ⟨d1, f1⟩ := HF.out.cells 1 _ rfl
    obtain ⟨d2, f2⟩ := HF.out.cells 2 _ rfl
    obtain ⟨d3, f3⟩ := HF.out.cells 3 _ rfl
    obtain ⟨d4, f4⟩ := HF.out.cells 4 _ rfl
    obtain ⟨d5, f5⟩ := HF.out.cells 5 _ rfl
    go_wp2_with fail
    exact bodyPost_ret (v := .tuple #[zeroV, .int .i64 (n : Int)]) (by simp [results, Tryd.results50, go_sem, zeroV, *]) rfl (fin_err HG.out _ _ _ _ _ _ rfl)
  | ok fs r =>
    rw [hres] at H
    unfold RPost OkPost at H
    have hT := Lib.hid H
    clear H hres
    show Calls _ _ _ _ (OkPost (ValV w.heap.size) w gr ba bc b (Bson.shut true fs) r)
    go_enter Tryd.func50, Tryd.ntmps50
    go_wp2_with fail
    refine hT.out.mono ?_
    rintro e' w0 ⟨v, k', rfl, hV, hr, hR', hg⟩
    have HF0 := Lib.hid ((Fresh.new w).grown hg hlt)
    have HG0 := Lib.hid (grown_trans (grown_box _) hg)
    have HR' := Lib.hid hR'
    have HRR := Lib.hid hr
    obtain ⟨hfl, hh, a, c, rfl, hcc, hFI⟩ := hV
    have HFI := Lib.hid hFI
    have hsz0 := hg.size
    clear hg hr hR' hFI
    have hsz1 : w.heap.size < w0.heap.size := by simp at hsz0; omega
    clear hsz0
    obtain ⟨n, hn⟩ : ∃ n, n = fs.length := ⟨_, rfl⟩
    have HN := Lib.hid hn
    rw [← hn] at hfl hcc ⊢
    clear hn
    go_wp2_with fail
    go_loopw [24] (fun i wr => ∃ (kk : Nat) (al : Option Addr) (cl : Nat) (xs : List Value), i = .int .i64 kk ∧ kk ≤ n ∧ Hid (wr.heap[w0.heap.size]? = some (.cells #[.int .i64 7, .int .i64 0, .string ⟨#[]⟩, .slice none 0 0, .slice none 0 0, .slice al kk cl] 28 (0, 0))) ∧ Hid (Acc wr (w0.heap.size + 1) (.slice al kk cl) (fun g => w.heap.size + 1 ≤ g ∧ g < w0.heap.size) hh ((fs.map (·.2)).take kk) xs) ∧ Hid (Below w0.heap.size w0 wr)) (fun i _ => n - (intOf i).toNat)
    case atStart => exact ⟨0, none, 0, [], rfl, Nat.zero_le _, heap_alloc_new w0 _, Acc.nil _ _ _ _, (Below.refl _ w0).alloc (Nat.le_refl _) _⟩
    case round =>
      obtain ⟨kk, al, cl, xs, rfl, hk, HX, HA, HB⟩ := hrel
      have r0 := cell_of_row _ _ 0 _ _ _ HX.out
      have r1 := cell_of_row _ _ 1 _ _ _ HX.out
      have r2 := cell_of_row _ _ 2 _ _ _ HX.out
      have r3 := cell_of_row _ _ 3 _ _ _ HX.out
      have r4 := cell_of_row _ _ 4 _ _ _ HX.out
      have r5 := cell_of_row _ _ 5 _ _ _ HX.out
      by_cases hlt2 : kk < n
      · skip
        have hkf : kk < fs.length := by rw [← HN.out]; exact hlt2
        obtain ⟨g, o, rfl, hqg, hall⟩ := HFI.out.resolve_left (fun e => by rw [e] at hkf; simp at hkf)
        obtain ⟨hnm, hnl, v1, hsix, hV1⟩ := hall kk hkf
        obtain ⟨q1, q2, q3, a1, n1, c1x, a2, n2, c2, a3, n3, c3, rfl⟩ := VIn.form hV1
        obtain ⟨e0, e1, e2, e3, e4, e5, he6, s0, s1, s2, s3, s4, s5⟩ := hsix
        obtain ⟨rfl, rfl, rfl, rfl, rfl, rfl⟩ : e0 = .int .i64 q1 ∧ e1 = .int .i64 q2 ∧ e2 = .string q3 ∧ e3 = .slice a1 n1 c1x ∧ e4 = .slice a2 n2 c2 ∧ e5 = .slice a3 n3 c3 := by
          simp only [Value.agg.injEq, Array.mk.injEq, List.cons.injEq, and_true] at he6
          obtain ⟨e0, e1, e2, e3, e4, e5⟩ := he6
          exact ⟨e0.symm, e1.symm, e2.symm, e3.symm, e4.symm, e5.symm⟩
        have z0 := cell_keep HB.out hnm
        have z1 := cell_keep HB.out s0
        have z2 := cell_keep HB.out s1
        have z3 := cell_keep HB.out s2
        have z4 := cell_keep HB.out s3
        have z5 := cell_keep HB.out s4
        have z6 := cell_keep HB.out s5
        have hV2 : VIn w0 (fun g => w.heap.size + 1 ≤ g ∧ g < w0.heap.size) hh fs[kk].2 (.agg #[.int .i64 q1, .int .i64 q2, .string q3, .slice a1 n1 c1x, .slice a2 n2 c2, .slice a3 n3 c3]) := VIn.lt hV1
        generalize fs[kk].1 = fnm at *
        have HTK : Hid ((fs.map (·.2)).take (kk + 1) = (fs.map (·.2)).take kk ++ [fs[kk].2]) := by
          show _ = _
          rw [List.take_succ_eq_append_getElem (by simpa using hkf), List.getElem_map]
        generalize fs[kk].2 = y at *
        clear s0 s1 s2 s3 s4 s5 hnm he6 hall hV1
        have hbs := HB.out.size
        have hXl := (Array.getElem?_eq_some_iff.1 HX.out).1
        have HB2 : Hid (Below wr.heap.size wr ((wr.alloc (.cells #[.string fnm, .int .i64 q1, .int .i64 q2, .string q3, .slice a1 n1 c1x, .slice a2 n2 c2, .slice a3 n3 c3] 35)).alloc (.cells #[.int .i64 q1, .int .i64 q2, .string q3, .slice a1 n1 c1x, .slice a2 n2 c2, .slice a3 n3 c3] 28))) := ((Below.refl _ wr).alloc (Nat.le_refl _) _).alloc (by simp) _
        have HA2 := Lib.hid (HA.out.keep HB2.out)
        have HX2 := Lib.hid ((HB2.out.block _ hXl).trans HX.out)
        have HBW := Lib.hid (HB.out.trans (HB2.out.mono hbs))
        have hlkk : ((fs.map (·.2)).take kk).length = kk := by simp; omega
        have HOWN : Hid (((wr.alloc (.cells #[.string fnm, .int .i64 q1, .int .i64 q2, .string q3, .slice a1 n1 c1x, .slice a2 n2 c2, .slice a3 n3 c3] 35)).alloc (.cells #[.int .i64 q1, .int .i64 q2, .string q3, .slice a1 n1 c1x, .slice a2 n2 c2, .slice a3 n3 c3] 28)).ownsRow (w0.heap.size + 1) 28 6 (.slice al kk cl) kk xs) := by have h1 := HA2.out.own; rw [hlkk] at h1; exact h1
        have hnw := sixNew (wr.alloc (.cells #[.string fnm, .int .i64 q1, .int .i64 q2, .string q3, .slice a1 n1 c1x, .slice a2 n2 c2, .slice a3 n3 c3] 35)) (.int .i64 q1) (.int .i64 q2) (.string q3) (.slice a1 n1 c1x) (.slice a2 n2 c2) (.slice a3 n3 c3) 28
        rw [show (wr.alloc (.cells #[.string fnm, .int .i64 q1, .int .i64 q2, .string q3, .slice a1 n1 c1x, .slice a2 n2 c2, .slice a3 n3 c3] 35)).heap.size = wr.heap.size + 1 by simp] at hnw
        have HNW := Lib.hid hnw
        have HV3 := Lib.hid (hV2.keep HBW.out)
        have HSZ : Hid (w0.heap.size + 1 ≤ ((wr.alloc (.cells #[.string fnm, .int .i64 q1, .int .i64 q2, .string q3, .slice a1 n1 c1x, .slice a2 n2 c2, .slice a3 n3 c3] 35)).alloc (.cells #[.int .i64 q1, .int .i64 q2, .string q3, .slice a1 n1 c1x, .slice a2 n2 c2, .slice a3 n3 c3] 28)).heap.size) := (by simp; omega : w0.heap.size + 1 ≤ ((wr.alloc (.cells #[.string fnm, .int .i64 q1, .int .i64 q2, .string q3, .slice a1 n1 c1x, .slice a2 n2 c2, .slice a3 n3 c3] 35)).alloc (.cells #[.int .i64 q1, .int .i64 q2, .string q3, .slice a1 n1 c1x, .slice a2 n2 c2, .slice a3 n3 c3] 28)).heap.size)
        have r5b := cell_keep ((Below.refl _ wr).alloc (Nat.le_refl _) (.cells #[.string fnm, .int .i64 q1, .int .i64 q2, .string q3, .slice a1 n1 c1x, .slice a2 n2 c2, .slice a3 n3 c3] 35)) r5
        clear hnw hV2 hlkk
        go_wp2_with (at_builtin; refine wpList_append_sz _ rfl (.tmp 29) (.tmp 32) 26 rfl (w0.heap.size + 1) 28 i0 (.agg #[.int .i64 0, .int .i64 0, .string ⟨#[]⟩, .slice none 0 0, .slice none 0 0, .slice none 0 0]) 6 104 Tryd.underlying26 hi hz0 hz1 hz2 rfl (.slice al kk cl) kk xs rfl HOWN.out ⟨wr.heap.size + 1, 0, none⟩ 1 1 [.int .i64 q1, .int .i64 q2, .string q3, .slice a1 n1 c1x, .slice a2 n2 c2, .slice a3 n3 c3] rfl rfl (by decide) (by decide) HNW.out (sixOne _ _ _ _ _ _ _ _ _ _ _ _) (by unfold maxLen; omega) (by omega) HSZ.out ?_)
        intro v5 w5 hown5 hlies5
        have hw5 := Wrote.of_lies hlies5
        obtain ⟨a5, c5, rfl, hc5, hm5, hlt5⟩ := rowShape hown5
        have hne3 : (Value.slice al kk cl).ownBlock ≠ some w0.heap.size := fun e => by have := (HOWN.out.lt _ e).1; omega
        have hlt3 : w0.heap.size < ((wr.alloc (.cells #[.string fnm, .int .i64 q1, .int .i64 q2, .string q3, .slice a1 n1 c1x, .slice a2 n2 c2, .slice a3 n3 c3] 35)).alloc (.cells #[.int .i64 q1, .int .i64 q2, .string q3, .slice a1 n1 c1x, .slice a2 n2 c2, .slice a3 n3 c3] 28)).heap.size := by have := HSZ.out; omega
        have hr5 := (hw5.1.block _ hlt3 (fun e => hne3 e.symm)).trans HX2.out
        have hA5 : Acc w5 (w0.heap.size + 1) (.slice a5 (kk + 1) c5) (fun g => w.heap.size + 1 ≤ g ∧ g < w0.heap.size) hh ((fs.map (·.2)).take (kk + 1)) (xs ++ [.int .i64 q1, .int .i64 q2, .string q3, .slice a1 n1 c1x, .slice a2 n2 c2, .slice a3 n3 c3]) := by
          rw [HTK.out]
          exact HA2.out.push hw5 (by rw [show ((fs.map (·.2)).take kk).length = kk by simp; omega]; exact hown5) (HV3.out.kept (Kept.of_below (Below.refl _ _)) (fun g hg => ⟨hg, fun e => by have := (HOWN.out.lt _ e).1; omega⟩))
        have hne5 : (Value.slice a5 (kk + 1) c5).ownBlock ≠ some w0.heap.size := fun e => by have := (hlt5 _ e).1; omega
        have HB5 : Hid (Below w0.heap.size w0 w5) := HBW.out.grown hw5.1 (by have := HSZ.out; omega) (fun j hj => by have := (HOWN.out.lt j hj).1; omega)
        have HX6 := Lib.hid (rowSet6 (u := .slice a5 (kk + 1) c5) hr5)
        have HA6 : Hid (Acc (w5.setCell ⟨w0.heap.size, 5, none⟩ (.slice a5 (kk + 1) c5)) (w0.heap.size + 1) (.slice a5 (kk + 1) c5) (fun g => w.heap.size + 1 ≤ g ∧ g < w0.heap.size) hh ((fs.map (·.2)).take (kk + 1)) (xs ++ [.int .i64 q1, .int .i64 q2, .string q3, .slice a1 n1 c1x, .slice a2 n2 c2, .slice a3 n3 c3])) := accBeside hA5 (G := w0.heap.size) (fun g hg => Below.heap_setCell w5 ⟨w0.heap.size, 5, none⟩ _ g hg) (fun h => by have := h.2; omega) hne5
        have HB6 : Hid (Below w0.heap.size w0 (w5.setCell ⟨w0.heap.size, 5, none⟩ (.slice a5 (kk + 1) c5))) := HB5.out.setCell (Nat.le_refl _) _
        have q5 := (cell_of_row w5 w0.heap.size 5 _ _ _ hr5).trans (rfl : _ = some (Value.slice al kk cl))
        have fz5 := frozen_of_row w5 w0.heap.size 5 _ _ hr5
        clear hown5 hlies5 hw5 HOWN HNW HSZ hne3 hlt3 hr5 hA5 hne5 HB5 r0 r1 r2 r3 r4 r5 r5b hlt5 z0 z1 z2 z3 z4 z5 z6
        go_wp2_with fail
        go_roundw
        case rel => exact ⟨kk + 1, a5, c5, _, by go_num, by omega, HX6, HA6, HB6⟩
        case measure => simp [intOf]; omega
      · obtain rfl : n = kk := by omega
        have htk : (fs.map (·.2)).take n = fs.map (·.2) := List.take_of_length_le (by simp; rw [HN.out]; exact Nat.le_refl _)
        have HAF := HA.out
        rw [htk] at HAF
        obtain ⟨a9, c9, e9, hc9, hI9⟩ := HAF.items (Q' := fun g => w.heap.size + 1 ≤ g) (fun g hg => hg.1) (fun g hg _ => by omega)
        injection e9 with e9a e9b e9c
        subst e9a
        subst e9c
        have hVV : ValV (w.heap.size + 1) wr (.mk 7 0 Bson.none_ [] [] (fs.map (·.2))) (.agg #[.int .i64 7, .int .i64 0, .string ⟨#[]⟩, .slice none 0 0, .slice none 0 0, .slice al n cl]) := by
          refine ⟨hh + 1, none, none, al, 0, 0, cl, ?_, ⟨by show (-9223372036854775808 : Int) ≤ 7; decide, by show (7 : Int) ≤ 9223372036854775807; decide, by show (-9223372036854775808 : Int) ≤ 0; decide, by show (0 : Int) ≤ 9223372036854775807; decide, Nat.zero_le _, Nat.zero_le _, Nat.zero_le _, by show (fs.map (·.2)).length ≤ 1353245080339; simp; rw [← HN.out]; omega, fun c hc => by cases hc⟩, ⟨Nat.le_refl _, by omega⟩, ⟨Nat.le_refl _, by omega⟩, ?_, .inl rfl, .inl rfl, hI9⟩
          · show Value.agg _ = .agg _
            rw [e9b]; rfl
          · show (fs.map (·.2)).length ≤ cl ∧ _
            exact hc9
        have HVV := Lib.hid (hVV.stored_at (.int .i64 7) (.int .i64 0) (.string ⟨#[]⟩) (.slice none 0 0) (.slice none 0 0) (.slice al n cl))
        have hbl := HB.out.size
        have HF : Hid (Fresh w wr) := (HB.out.block _ hsz1).trans HF0.out
        have HG := Lib.hid (grown_trans HG0.out (grown_below HB.out gr))
        have HRW := Lib.hid (HR'.out.keep HB.out)
        clear HAF hI9 hVV htk e9b
        obtain ⟨d0, f0⟩ := HF.out.cells 0 _ rfl
        obtain ⟨d1, f1⟩ := HF.out.cells 1 _ rfl
        obtain ⟨d2, f2⟩ := HF.out.cells 2 _ rfl
        obtain ⟨d3, f3⟩ := HF.out.cells 3 _ rfl
        obtain ⟨d4, f4⟩ := HF.out.cells 4 _ rfl
        obtain ⟨d5, f5⟩ := HF.out.cells 5 _ rfl
        go_wp2_with fail
        exact bodyPost_ret (v := .tuple #[.agg #[.int .i64 7, .int .i64 0, .string ⟨#[]⟩, .slice none 0 0, .slice none 0 0, .slice al n cl], .int .i64 0]) (by simp [results, Tryd.results50, go_sem, *]) rfl (fin_ok hlt HF.out HRW.out HG.out (.int .i64 7) (.int .i64 0) (.string ⟨#[]⟩) (.slice none 0 0) (.slice none 0 0) (.slice al n cl) HVV.out HRR.out)
end Go.Proofs.YtdihelpimpkfoaaDoor
end
