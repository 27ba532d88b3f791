/- top.New, (*Top).Add, Len, Size. -/
import Derived.Test.YtfkkckadnookoaaTopDrop
namespace Top
open Order
variable {α : Type} {c : α → α → Int}
theorem ins_strict (hc : IsCmp c) (x : α) : ∀ l : List α, (l.Pairwise fun a b => c a b < 0) → (∀ y ∈ l, c y x ≠ 0) → (ins c x l).Pairwise fun a b => c a b < 0
  | [], _, _ => List.pairwise_singleton _ _
  | y :: r, h, hx => by
    obtain ⟨h1, h2⟩ := List.pairwise_cons.1 h
    have hy := hx y List.mem_cons_self
    unfold ins
    split
    · rename_i e
      refine List.pairwise_cons.2 ⟨fun z hz => ?_, ins_strict hc x r h2 fun z hz => hx z (List.mem_cons_of_mem _ hz)⟩
      rcases List.mem_cons.1 ((ins_perm x r).mem_iff.1 hz) with rfl | hz
      · omega
      · exact h1 z hz
    · rename_i e
      have ea := hc.anti x y
      refine List.pairwise_cons.2 ⟨fun z hz => ?_, h⟩
      rcases List.mem_cons.1 hz with rfl | hz
      · omega
      · exact hc.lt_le (a := x) (b := y) (d := z) (by omega) (by have := h1 z hz; omega)
theorem ins_map {β : Type} {k : β → β → Int} (f : α → β) (x : α) : ∀ l : List α, (∀ y ∈ l, c y x ≤ 0 ↔ k (f y) (f x) ≤ 0) → (ins c x l).map f = ins k (f x) (l.map f)
  | [], _ => rfl
  | y :: r, h => by
    have h1 := h y List.mem_cons_self
    show (if c y x ≤ 0 then y :: ins c x r else x :: y :: r).map f = if k (f y) (f x) ≤ 0 then f y :: ins k (f x) (r.map f) else f x :: f y :: r.map f
    by_cases e : c y x ≤ 0
    · rw [if_pos e, if_pos (h1.1 e), List.map_cons, ins_map f x r fun z hz => h z (List.mem_cons_of_mem _ hz)]
    · rw [if_neg e, if_neg (fun q => e (h1.2 q))]; rfl
/-- The greatest of a list in order is its last one. -/
theorem last_of (hc : IsCmp c) {S : List α} (hs : S.Pairwise fun a b => c a b < 0) {r : α} (hr : r ∈ S) (hm : ∀ x ∈ S, c x r ≤ 0) : S.getLast? = some r := by
  rcases List.eq_nil_or_concat S with rfl | ⟨t, z, rfl⟩
  · cases hr
  · rw [List.concat_eq_append] at *
    have e : r = z := by
      rcases List.mem_append.1 hr with hr | hr
      · have h1 := (List.pairwise_append.1 hs).2.2 r hr z List.mem_cons_self
        have h2 := hm z (List.mem_append_right _ List.mem_cons_self)
        have h3 := hc.anti z r
        omega
      · exact List.mem_singleton.1 hr
    subst e
    simp
end Top
namespace Go.Proofs.Ytfkkckadnookoaa
open Go.RowKit
open Seal
def sz (L : List (List Nat × List Nat)) : Nat := (L.map wt).sum
theorem sz_perm {L M : List (List Nat × List Nat)} (h : L.Perm M) : sz L = sz M := (h.map wt).sum_nat
theorem sz_append (L M : List (List Nat × List Nat)) : sz (L ++ M) = sz L + sz M := by unfold sz; rw [List.map_append, List.sum_append_nat]
/-- A Top that keeps L, of at most m, cn having been kept so far. -/
structure TopIs (w : World) (p : Nat) (v : Value) (m cn : Nat) (L : List (List Nat × List Nat)) : Prop where
  ex : ∃ (s : Int) (d S : List Rk), PileAt w p m cn s v d ∧ Top.Heap cf d d.length ∧ d.Perm S ∧ (S.Pairwise fun a b => cf a b < 0) ∧ (∀ r ∈ S, r.c < cn) ∧ S.map Rk.it = L ∧ s = (sz L : Int)
section
variable {w w' : World} {p m cn : Nat} {v : Value} {L : List (List Nat × List Nat)}
theorem TopIs.keep (h : TopIs w p v m cn L) (hb : Below w.heap.size w w') : TopIs w' p v m cn L := by
  obtain ⟨s, d, S, h1, h2⟩ := h.ex
  exact ⟨s, d, S, h1.keep hb, h2⟩
theorem TopIs.lt (h : TopIs w p v m cn L) : p < w.heap.size := by
  obtain ⟨s, d, S, h1, h2⟩ := h.ex
  exact h1.lt
theorem TopIs.ge (h : TopIs w p v m cn L) {k : Nat} (hk : PF p v k) : p ≤ k ∧ k < w.heap.size := by
  obtain ⟨s, d, S, h1, h2⟩ := h.ex
  rcases hk with rfl | hk
  · exact ⟨Nat.le_refl _, h1.lt⟩
  · have := owns_block h1.own hk; omega
theorem sz_le {Q : Nat → Prop} : ∀ S : List Rk, (∀ r ∈ S, RkIn w Q r) → sz (S.map Rk.it) ≤ S.length * 20032
  | [], _ => Nat.le_refl _
  | r :: S, h => by
    have h1 := sz_le S fun x hx => h x (List.mem_cons_of_mem _ hx)
    have h2 := h r List.mem_cons_self
    have h3 := h2.k.lim; have h4 := h2.d.lim
    have : sz ((r :: S).map Rk.it) = (32 + r.k.length + r.d.length) + sz (S.map Rk.it) := rfl
    rw [this, List.length_cons]
    omega
theorem cf_new {r y : Rk} (h : y.c < r.c) : cf y r ≠ 0 ∧ (cf y r ≤ 0 ↔ ck y.it r.it ≤ 0) := by
  have e1 : ck y.it r.it = Order.octs y.k r.k := rfl
  have hl : Order.sgn (y.c : Int) (r.c : Int) = -1 := Order.sgn_lt (by omega)
  rw [e1]
  unfold cf
  by_cases e : Order.octs y.k r.k = 0
  · rw [if_pos e, hl, e]; omega
  · rw [if_neg e]; exact ⟨e, Iff.rfl⟩
theorem tlen_any (h : TopIs w p v m cn L) : Calls Try.prog 13 #[.pointer (some ⟨p, 0, none⟩)] w fun e w' => e = .returned (.int .i64 L.length) ∧ w' = w := by
  obtain ⟨s, d, S, h1, h2, h3, h4, h5, h6, h7⟩ := h.ex
  obtain ⟨c0, c1, c2, c3⟩ := h1.cells
  obtain ⟨va, vc, rfl⟩ := h1.shape
  have hl : d.length = L.length := by rw [← h6, List.length_map]; exact h3.length_eq
  rw [hl] at c1
  generalize L.length = n at c1 ⊢
  clear hl h1 h2 h3 h4 h5 h6 h7 h
  go_enter Try.func13, Try.ntmps13
  go_wp2_with fail
  go_ret
  exact ⟨rfl, rfl⟩
theorem tsize_any (h : TopIs w p v m cn L) : Calls Try.prog 16 #[.pointer (some ⟨p, 0, none⟩)] w fun e w' => e = .returned (.int .i64 (sz L)) ∧ w' = w := by
  obtain ⟨s, d, S, h1, h2, h3, h4, h5, h6, h7⟩ := h.ex
  obtain ⟨c0, c1, c2, c3⟩ := h1.cells
  rw [h7] at c3
  generalize (sz L : Int) = n at c3 ⊢
  clear h1 h2 h3 h4 h5 h6 h7 h c1
  go_enter Try.func16, Try.ntmps16
  go_wp2_with fail
  go_ret
  exact ⟨rfl, rfl⟩
/-- What stands behind a keep. -/
theorem TopIs.kept {s : Int} {v' : Value} {d d' S : List Rk} {r : Rk} (hP : PileAt w' p m ((cn : Int) + 1) (s + wt r.it) v' d') (hH : Top.Heap cf d' d'.length) (hE : d'.Perm (d ++ [r])) (hdS : d.Perm S) (hS : S.Pairwise fun a b => cf a b < 0) (hc : ∀ x ∈ S, x.c < cn) (hL : S.map Rk.it = L) (hs : s = (sz L : Int)) (hr : r.c = cn) :
    TopIs w' p v' m (cn + 1) (Top.ins ck r.it L) := by
  have hnew : ∀ y ∈ S, cf y r ≠ 0 ∧ (cf y r ≤ 0 ↔ ck y.it r.it ≤ 0) := fun y hy => cf_new (by rw [hr]; exact hc y hy)
  refine ⟨_, d', Top.ins cf r S, hP, hH, ?_, Top.ins_strict cf_cmp r S hS fun y hy => (hnew y hy).1, ?_, ?_, ?_⟩
  · exact hE.trans ((hdS.append_right [r]).trans ((List.perm_append_comm).trans (Top.ins_perm r S).symm))
  · intro x hx
    rcases List.mem_cons.1 ((Top.ins_perm r S).mem_iff.1 hx) with rfl | hx
    · omega
    · have := hc x hx; omega
  · rw [← hL]; exact Top.ins_map Rk.it r S fun y hy => (hnew y hy).2
  · have h1 := sz_perm (Top.ins_perm (c := ck) r.it L)
    have h2 : sz (r.it :: L) = wt r.it + sz L := rfl
    rw [h1, h2, hs]; omega
set_option maxRecDepth 100000 in
set_option maxHeartbeats 4000000 in
theorem add_any (h : TopIs w p v m cn L) (hcn : cn ≤ 1000000) (hlim : L.length < 100000) (Q : Nat → Prop) (kv dv : Value) (k dd : List Nat) (hk : SlQ w Q kv k) (hd : SlQ w Q dv dd) (hQ : ∀ g, Q g → ¬ PF p v g) :
    Calls Try.prog 9 #[.pointer (some ⟨p, 0, none⟩), .agg #[kv, dv]] w fun e w' => e = .returned (.bool (Top.takes ck m (k, dd) L)) ∧ ∃ v' cn', cn' ≤ cn + 1 ∧ TopIs w' p v' m cn' (Top.nxt ck m (k, dd) L) ∧ RM (PF p v) w w' ∧ (∀ k, k < w.heap.size → PF p v' k → PF p v k) ∧ (Top.takes ck m (k, dd) L = false → v' = v ∧ cn' = cn ∧ Below w.heap.size w w') := by
  obtain ⟨s, d, S, hP, hH, hE, hS, hC, hL, hs⟩ := h.ex
  have hdl : d.length = L.length := by rw [← hL, List.length_map]; exact hE.length_eq
  have hbd : sz L ≤ 100000 * 20032 := by
    have := sz_le S (fun r hr => hP.el r (hE.mem_iff.2 hr))
    rw [hL] at this
    have : S.length = L.length := by rw [← hL, List.length_map]
    omega
  have hs2 : -1000000000000 ≤ s ∧ s ≤ 1000000000000 := by omega
  obtain ⟨ka, kc, ek⟩ := hk.shape
  obtain ⟨da, dc, ed⟩ := hd.shape
  obtain ⟨kn, hkn⟩ : ∃ n, n = k.length := ⟨_, rfl⟩
  obtain ⟨dn, hdn⟩ : ∃ n, n = dd.length := ⟨_, rfl⟩
  rw [← hkn] at ek; rw [← hdn] at ed
  subst ek; subst ed
  have HF := Lib.hid (fun w (q : PileAt w p m cn s v d) => isFull_any q)
  have HB : Hid (Below w.heap.size w (w.alloc (.cells #[.slice ka kn kc, .slice da dn dc] 30))) := (Below.refl _ w).alloc (Nat.le_refl _) _
  have HP := Lib.hid hP; have HK := Lib.hid hk; have HD := Lib.hid hd
  have HX : Hid ((w.alloc (.cells #[.slice ka kn kc, .slice da dn dc] 30)).heap[w.heap.size]? = some (.cells #[.slice ka kn kc, .slice da dn dc] 30 (0, 0))) := heap_alloc_new w _
  have HQ := Lib.hid hQ
  by_cases hfull : L.length < m
  · have htk : Top.takes ck m (k, dd) L = true := by unfold Top.takes; simp [hfull]
    have hnx : Top.nxt ck m (k, dd) L = Top.ins ck (k, dd) L := by unfold Top.nxt; rw [if_pos hfull]
    rw [htk, hnx]
    have hff : decide ((d.length : Int) ≥ (m : Int)) = false := by rw [decide_eq_false_iff_not]; omega
    rw [hff] at HF
    have HKE := Lib.hid (fun (w2 : World) (hb : Below w.heap.size w w2) => keep_any (w := w2) (p := p) (m := m) (s := s) (v := v) (d := d) cn (hP.keep hb) hH (by omega) hcn hs2 (fun g => g < w.heap.size ∧ Q g) (.slice ka kn kc) (.slice da dn dc) k dd ((hk.mono (fun g hg hl => ⟨hl, hg⟩)).below hb) ((hd.mono (fun g hg hl => ⟨hl, hg⟩)).below hb) (fun g hg => hQ g hg.2))
    have HEND := Lib.hid (fun (w2 : World) (r : Rk) (v' : Value) (d' : List Rk) (e1 : r.it = (k, dd)) (e2 : r.c = cn) (q1 : PileAt w2 p m ((cn : Int) + 1) (s + wt (k, dd)) v' d') (q2 : Top.Heap cf d' d'.length) (q3 : d'.Perm (d ++ [r])) => (by rw [← e1] at q1 ⊢; exact TopIs.kept q1 q2 q3 hE hS hC hL hs e2 : TopIs w2 p v' m (cn + 1) (Top.ins ck (k, dd) L)))
    clear h hP hH hE hS hC hL hs hdl hbd hs2 hk hd hQ hkn hdn hcn hlim htk hnx hff hfull HK HD
    go_enter Try.func9, Try.ntmps9
    go_upto_region 3 with fail
    generalize w.alloc _ = w1 at HB HX ⊢
    go_wp2_with fail
    go_at_call 17
    refine (HF.out w1 (HP.out.keep HB.out)).mono ?_
    rintro e2 w2 ⟨rfl, hb2⟩
    have hb1 := (hb2.block w.heap.size (Array.getElem?_eq_some_iff.1 HX.out).1).trans HX.out
    have y0 : w2.cell? ⟨w.heap.size, 0, none⟩ = some (.slice ka kn kc) := (cell_of_row w2 _ 0 _ _ _ hb1).trans rfl
    have y1 : w2.cell? ⟨w.heap.size, 1, none⟩ = some (.slice da dn dc) := (cell_of_row w2 _ 1 _ _ _ hb1).trans rfl
    have HB2 : Hid (Below w.heap.size w w2) := HB.out.trans (hb2.mono HB.out.size)
    clear hb2 hb1 HB HX HF
    go_wp2_with fail
    go_at_call 20
    refine (HKE.out w2 HB2.out).mono ?_
    rintro e3 w3 ⟨rfl, r, v3, d3, q1, q2, q3, q4, q5, q6, q7⟩
    have HT := Lib.hid (HEND.out w3 r v3 d3 q1 q2 q3 q5 q4)
    have HR3 : Hid (RM (PF p v) w w3) := (RM.of_below HB2.out).then q6
    have HM3 : Hid (∀ k, k < w.heap.size → PF p v3 k → PF p v k) := fun k hk e => q7 k (by have := HB2.out.size; omega) e
    clear q1 q2 q3 q4 q5 q6 q7 HKE HEND HB2 y0 y1
    go_wp2_with fail
    go_ret
    exact ⟨rfl, v3, cn + 1, Nat.le_refl _, HT.out, HR3.out, HM3.out, fun e => by cases e⟩
  · have hff : decide ((d.length : Int) ≥ (m : Int)) = true := by rw [decide_eq_true_eq]; omega
    rw [hff] at HF
    have HA := Lib.hid (fun (w2 : World) (hb : Below w.heap.size w w2) => isAhead_any (hP.keep hb) Q (.slice ka kn kc) (.slice da dn dc) k dd (hk.below hb) (hd.below hb))
    have hlast : (d.head?.any fun r => decide (Order.octs k r.k < 0)) = (L.getLast?.any fun y => decide (ck (k, dd) y < 0)) := by
      cases hd0 : d with
      | nil =>
        have : S = [] := by rw [hd0] at hE; exact List.Perm.nil_eq hE |>.symm
        rw [← hL, this]; rfl
      | cons r0 d0 =>
        have hl0 := Top.last_of cf_cmp hS (r := r0) (hE.mem_iff.1 (by rw [hd0]; exact List.mem_cons_self)) (fun x hx => by
          obtain ⟨i, hi, rfl⟩ := List.getElem_of_mem (hE.mem_iff.2 hx)
          have := hH.top cf_cmp i hi hi
          simp only [hd0, List.getElem_cons_zero] at this ⊢
          exact this)
        rw [← hL, List.getLast?_map, hl0]; rfl
    rw [hlast] at HA
    by_cases hah : (L.getLast?.any fun y => decide (ck (k, dd) y < 0)) = true
    · have htk : Top.takes ck m (k, dd) L = true := by unfold Top.takes; rw [hah, Bool.or_true]
      have hnx : Top.nxt ck m (k, dd) L = Top.ins ck (k, dd) L.dropLast := by unfold Top.nxt; rw [if_neg hfull, if_pos hah]
      rw [htk, hnx]
      rw [hah] at HA
      have hne : 0 < d.length := by
        rw [hdl]
        cases hL0 : L with
        | nil => rw [hL0] at hah; cases hah
        | cons a b => simp
      obtain ⟨n, hn⟩ : ∃ n, d.length = n + 1 := ⟨d.length - 1, by omega⟩
      have HDR := Lib.hid (fun (w2 : World) (hb : Below w.heap.size w w2) => drop_any (w := w2) n (hP.keep hb) hH hn (by omega) hs2)
      have HKE := Lib.hid (fun (w2 : World) (r : Rk) (v2 : Value) (d2 : List Rk) (q : PileAt w2 p m cn (s - wt r.it) v2 d2) (q2 : Top.Heap cf d2 d2.length) (q3 : (d2 ++ [r]).Perm d) (q4 : RM (PF p v) w w2) (q5 : ∀ k, PF p v2 k → PF p v k) =>
        keep_any (w := w2) (p := p) (m := m) (s := s - wt r.it) (v := v2) (d := d2) cn q q2 (by have := q3.length_eq; rw [List.length_append] at this; omega) hcn (by
          have h1 := hP.el r (q3.mem_iff.1 (by simp))
          have h2 := h1.k.lim; have h3 := h1.d.lim
          have h4 : wt r.it = 32 + r.k.length + r.d.length := rfl
          have h5 : (0 : Int) ≤ s := by rw [hs]; omega
          omega) (fun g => g < w.heap.size ∧ Q g) (.slice ka kn kc) (.slice da dn dc) k dd (hk.keep (fun g hg hl => q4.block g hl (hQ g hg)) (fun g hg hl => ⟨hl, hg⟩)) (hd.keep (fun g hg hl => q4.block g hl (hQ g hg)) (fun g hg hl => ⟨hl, hg⟩)) (fun g hg e => hQ g hg.2 (q5 g e)))
      have HEND := Lib.hid (fun (w2 : World) (r0 : Rk) (d2 : List Rk) (z1 : (d2 ++ [r0]).Perm d) (z2 : ∀ x ∈ d, cf x r0 ≤ 0) (r : Rk) (v' : Value) (d' : List Rk) (e1 : r.it = (k, dd)) (e2 : r.c = cn) (q1 : PileAt w2 p m ((cn : Int) + 1) (s - wt r0.it + wt (k, dd)) v' d') (q2 : Top.Heap cf d' d'.length) (q3 : d'.Perm (d2 ++ [r])) => (by
        have hl0 := Top.last_of cf_cmp hS (r := r0) (hE.mem_iff.1 (z1.mem_iff.1 (by simp))) (fun x hx => z2 x (hE.mem_iff.2 hx))
        obtain ⟨T, rfl⟩ : ∃ T, S = T ++ [r0] := ⟨S.dropLast, by
          rcases List.eq_nil_or_concat S with rfl | ⟨t, z, rfl⟩
          · cases hl0
          · rw [List.concat_eq_append] at *
            simp at hl0
            subst hl0; simp⟩
        have hdT : d2.Perm T := (List.perm_append_right_iff [r0]).1 (z1.trans hE)
        have hL2 : T.map Rk.it = L.dropLast := by rw [← hL, List.map_append]; simp
        have hsz : s - wt r0.it = (sz L.dropLast : Int) := by
          rw [hs, ← hL2, ← hL, List.map_append, sz_append]
          have : sz ([r0].map Rk.it) = wt r0.it := by simp [sz]
          rw [this]; omega
        rw [← e1] at q1 ⊢
        exact TopIs.kept q1 q2 q3 hdT (List.pairwise_append.1 hS).1 (fun x hx => hC x (List.mem_append_left _ hx)) hL2 hsz e2 : TopIs w2 p v' m (cn + 1) (Top.ins ck (k, dd) L.dropLast)))
      clear h hP hH hE hS hC hL hs hdl hbd hs2 hk hd hQ hkn hdn hcn hlim htk hnx hff hfull hlast hah hne hn HK HD
      go_enter Try.func9, Try.ntmps9
      go_upto_region 3 with fail
      generalize w.alloc _ = w1 at HB HX ⊢
      go_wp2_with fail
      go_at_call 17
      refine (HF.out w1 (HP.out.keep HB.out)).mono ?_
      rintro e2 w2 ⟨rfl, hb2⟩
      have hb1 := (hb2.block w.heap.size (Array.getElem?_eq_some_iff.1 HX.out).1).trans HX.out
      have y0 : w2.cell? ⟨w.heap.size, 0, none⟩ = some (.slice ka kn kc) := (cell_of_row w2 _ 0 _ _ _ hb1).trans rfl
      have y1 : w2.cell? ⟨w.heap.size, 1, none⟩ = some (.slice da dn dc) := (cell_of_row w2 _ 1 _ _ _ hb1).trans rfl
      have HB2 : Hid (Below w.heap.size w w2) := HB.out.trans (hb2.mono HB.out.size)
      have HX2 := Lib.hid hb1
      clear hb2 hb1 HB HX HF
      go_wp2_with fail
      go_at_call 18
      refine (HA.out w2 HB2.out).mono ?_
      rintro e3 w3 ⟨rfl, hb3⟩
      have HX3 := Lib.hid ((hb3.block w.heap.size (Array.getElem?_eq_some_iff.1 HX2.out).1).trans HX2.out)
      have HB3 : Hid (Below w.heap.size w w3) := HB2.out.trans (hb3.mono HB2.out.size)
      clear hb3 HB2 HX2 y0 y1 HA
      go_wp2_with fail
      go_at_call 19
      have HV : Hid (∀ g, PF p v g → g < w.heap.size) := fun g e => e.elim (fun e => by rw [e]; exact HP.out.lt) (fun e => (owns_block HP.out.own e).2)
      refine (HDR.out w3 HB3.out).mono ?_
      rintro e4 w4 ⟨rfl, r4, v4, d4, q1, q2, q3, q4, q5, q6⟩
      have hb1 := (q5.block w.heap.size (Array.getElem?_eq_some_iff.1 HX3.out).1 (fun e => by have := HV.out _ e; omega)).trans HX3.out
      have y0 : w4.cell? ⟨w.heap.size, 0, none⟩ = some (.slice ka kn kc) := (cell_of_row w4 _ 0 _ _ _ hb1).trans rfl
      have y1 : w4.cell? ⟨w.heap.size, 1, none⟩ = some (.slice da dn dc) := (cell_of_row w4 _ 1 _ _ _ hb1).trans rfl
      have HR4 : Hid (RM (PF p v) w w4) := (RM.of_below HB3.out).then q5
      have HKE4 := Lib.hid (HKE.out w4 r4 v4 d4 q1 q4 q2 HR4.out q6)
      have HEND4 := Lib.hid (fun w2 => HEND.out w2 r4 d4 q2 q3)
      have HF4 := Lib.hid q6
      clear q1 q2 q3 q4 q5 q6 hb1 HKE HEND HB3 HX3 HDR
      go_wp2_with fail
      go_at_call 20
      refine HKE4.out.mono ?_
      rintro e5 w5 ⟨rfl, r5, v5, d5, q1, q2, q3, q4, q5, q6, q7⟩
      have HT := Lib.hid (HEND4.out w5 r5 v5 d5 q1 q2 q3 q5 q4)
      have HR5 : Hid (RM (PF p v) w w5) := HR4.out.trans q6 (fun k _ e => HF4.out k e)
      have HM5 : Hid (∀ k, k < w.heap.size → PF p v5 k → PF p v k) := fun k hk e => HF4.out k (q7 k (by have := HR4.out.size; omega) e)
      clear q1 q2 q3 q4 q5 q6 q7 HKE4 HEND4 y0 y1 HR4 HF4
      go_wp2_with fail
      go_ret
      exact ⟨rfl, v5, cn + 1, Nat.le_refl _, HT.out, HR5.out, HM5.out, fun e => by cases e⟩
    · have hah2 : (L.getLast?.any fun y => decide (ck (k, dd) y < 0)) = false := by simpa using hah
      have htk : Top.takes ck m (k, dd) L = false := by unfold Top.takes; rw [hah2]; simp; omega
      have hnx : Top.nxt ck m (k, dd) L = L := by unfold Top.nxt; rw [if_neg hfull, if_neg hah]
      rw [htk, hnx]
      rw [hah2] at HA
      have HT0 := Lib.hid h
      clear h hP hH hE hS hC hL hs hdl hbd hs2 hk hd hQ hkn hdn hcn hlim htk hnx hff hfull hlast hah hah2 HK HD
      go_enter Try.func9, Try.ntmps9
      go_upto_region 3 with fail
      generalize w.alloc _ = w1 at HB HX ⊢
      go_wp2_with fail
      go_at_call 17
      refine (HF.out w1 (HP.out.keep HB.out)).mono ?_
      rintro e2 w2 ⟨rfl, hb2⟩
      have hb1 := (hb2.block w.heap.size (Array.getElem?_eq_some_iff.1 HX.out).1).trans HX.out
      have y0 : w2.cell? ⟨w.heap.size, 0, none⟩ = some (.slice ka kn kc) := (cell_of_row w2 _ 0 _ _ _ hb1).trans rfl
      have y1 : w2.cell? ⟨w.heap.size, 1, none⟩ = some (.slice da dn dc) := (cell_of_row w2 _ 1 _ _ _ hb1).trans rfl
      have HB2 : Hid (Below w.heap.size w w2) := HB.out.trans (hb2.mono HB.out.size)
      clear hb2 hb1 HB HX HF
      go_wp2_with fail
      go_at_call 18
      refine (HA.out w2 HB2.out).mono ?_
      rintro e3 w3 ⟨rfl, hb3⟩
      have HB3 : Hid (Below w.heap.size w w3) := HB2.out.trans (hb3.mono HB2.out.size)
      clear hb3 HB2 y0 y1 HA
      go_wp2_with fail
      go_ret
      exact ⟨rfl, v, cn, by omega, HT0.out.keep HB3.out, RM.of_below HB3.out, fun _ _ e => e, fun _ => ⟨rfl, rfl, HB3.out⟩⟩
end
end Go.Proofs.Ytfkkckadnookoaa
