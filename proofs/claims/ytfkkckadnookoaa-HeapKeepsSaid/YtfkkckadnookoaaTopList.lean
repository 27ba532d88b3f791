/- (*Top).List. -/
import Derived.Test.YtfkkckadnookoaaTopNil
namespace Go.Proofs.Ytfkkckadnookoaa
open Go.RowKit
open Seal
/-- v is a slice of the items L. -/
def ListIs (w : World) (Q : Nat → Prop) (v : Value) (L : List (List Nat × List Nat)) : Prop :=
  ∃ g c, v = .slice (some ⟨g, 0, none⟩) L.length c ∧ (L.length ≤ c ∧ c ≤ 9223372036854775807) ∧ Q g ∧ g < w.heap.size ∧ ∀ i (hi : i < L.length), ∃ kv dv, w.cell? ⟨g, i * 2, none⟩ = some kv ∧ w.cell? ⟨g, i * 2 + 1, none⟩ = some dv ∧ SlQ w Q kv L[i].1 ∧ SlQ w Q dv L[i].2
/-- A row of items that is being filled. -/
structure ItAt (w : World) (g n : Nat) (D : List (Value × Value)) : Prop where
  cur : ∃ cs, w.heap[g]? = some (.cells cs 30 (0, 0)) ∧ cs.size = n * 2 ∧ ∀ k (hk : k < D.length), cs[k * 2]? = some D[k].1 ∧ cs[k * 2 + 1]? = some D[k].2
section
variable {w w' : World} {g n : Nat} {D : List (Value × Value)}
theorem ItAt.cell (h : ItAt w g n D) {i : Nat} (hi : i < n) : (∃ a, w.cell? ⟨g, i * 2, none⟩ = some a) ∧ (∃ b, w.cell? ⟨g, i * 2 + 1, none⟩ = some b) := by
  obtain ⟨cs, hr, hs, _⟩ := h.cur
  exact ⟨⟨cs[i * 2]'(by omega), by rw [cell_of_row w g _ _ _ _ hr, Array.getElem?_eq_getElem (by omega)]⟩, ⟨cs[i * 2 + 1]'(by omega), by rw [cell_of_row w g _ _ _ _ hr, Array.getElem?_eq_getElem (by omega)]⟩⟩
theorem ItAt.frozen (h : ItAt w g n D) (o : Nat) : w.frozen? ⟨g, o, none⟩ = false := by
  obtain ⟨cs, hr, _⟩ := h.cur
  exact frozen_of_row w g o _ _ hr
theorem ItAt.same (h : ItAt w g n D) (e : w'.heap[g]? = w.heap[g]?) : ItAt w' g n D := by
  obtain ⟨cs, hr, h1⟩ := h.cur
  exact ⟨cs, e.trans hr, h1⟩
theorem ItAt.lt (h : ItAt w g n D) : g < w.heap.size := by
  obtain ⟨cs, hr, h1⟩ := h.cur
  exact (Array.getElem?_eq_some_iff.1 hr).1
theorem ItAt.push (h : ItAt w g n D) (hl : D.length < n) (a b : Value) : ItAt (puts w g (D.length * 2) [a, b]) g n (D ++ [(a, b)]) := by
  obtain ⟨cs, hr, hs, ha⟩ := h.cur
  obtain ⟨ds, h1, h2, h3, h4, h5⟩ := puts_same g 30 [a, b] w (D.length * 2) cs hr
  refine ⟨ds, h1, h2.trans hs, fun k hk => ?_⟩
  rw [List.length_append, List.length_singleton] at hk
  rcases Nat.lt_or_ge k D.length with hlt | hge
  · rw [List.getElem_append_left hlt, h3 _ (by omega), h3 _ (by omega)]
    exact ha k hlt
  · obtain rfl : k = D.length := by omega
    rw [List.getElem_append_right (Nat.le_refl _)]
    simp only [Nat.sub_self, List.getElem_cons_zero]
    have q := h5 (by rw [hs]; show D.length * 2 + 2 ≤ _; omega)
    exact ⟨q 0 (by simp), q 1 (by simp)⟩
end
section
variable {w : World} {p m cn : Nat} {v : Value} {L : List (List Nat × List Nat)}
set_option maxRecDepth 100000 in
theorem infoI : (Try.prog.info? 30).map (fun i => (i.zero, i.size, i.bytes)) = some (some (.agg #[.slice none 0 0, .slice none 0 0]), 2, 48) := by kernel_rfl
theorem run_makeItems (n : Nat) (hn : n ≤ 100000) : ∃ MC : Array Value, MC.size = n * 2 ∧ ∀ u : World, (Instr.makeSlice 34 (.int .i64 (n : Int)) (.int .i64 (n : Int))).run Try.prog u = .ok (.slice (some ⟨u.heap.size, 0, none⟩) n n) (u.alloc (.cells MC 30)) := by
  obtain ⟨i0, hi, hz0, hz1, hz2⟩ := info_of infoI
  refine ⟨madeCells #[.slice none 0 0, .slice none 0 0] (n * 2), size_madeCells _ _, fun u => ?_⟩
  have h := run_make (P := Try.prog) u 34 30 i0 (.agg #[.slice none 0 0, .slice none 0 0]) Try.underlying34 hi hz0 .i64 .i64 (n : Int) (n : Int) (by omega) (Int.le_refl _) (by rw [hz2]; omega) (by omega)
  rw [h, hz1, Int.toNat_natCast]; rfl
/-- The loop of List: a row of ranked items is copied out. -/
def LRel (w W3 : World) (G n : Nat) (L : List (List Nat × List Nat)) (i : Nat) (wr : World) : Prop :=
  RM (fun k => k = G) W3 wr ∧ ∃ D : List (Value × Value), D.length = i ∧ ItAt wr G n D ∧ ∀ j (hj : j < D.length) (hj2 : j < L.length), SlQ wr (fun k => w.heap.size ≤ k ∧ k ≠ G) D[j].1 L[j].1 ∧ SlQ wr (fun k => w.heap.size ≤ k ∧ k ≠ G) D[j].2 L[j].2
theorem LRel.next {W3 wr w1 w2 : World} {G n i : Nat} {kv dv : Value} (h : LRel w W3 G n L i wr) (hW : w.heap.size ≤ W3.heap.size) (hi : i < n) (hl : L.length = n) (hb : Below wr.heap.size wr w1) (hk : SlQ w1 (fun k => wr.heap.size ≤ k) kv (L[i]'(by omega)).1) (hd : SlQ w1 (fun k => wr.heap.size ≤ k) dv (L[i]'(by omega)).2)
    (he : w2 = puts w1 G (i * 2) [kv, dv]) : LRel w W3 G n L (i + 1) w2 := by
  obtain ⟨hr, D, hDl, hI, hall⟩ := h
  have hGw : G < wr.heap.size := hI.lt
  have hI1 := hI.same (hb.block G hGw)
  have hI2 := hI1.push (by omega) kv dv
  rw [hDl, ← he] at hI2
  have e0 := puts_below (B := 0) (G := G) (Below.refl 0 w1) (Nat.zero_le _) [kv, dv] (i * 2)
  have q := fun k (hk : k ≠ G) => puts_other G k hk [kv, dv] w1 (i * 2)
  rw [← he] at e0 q
  have hs := hr.size
  have hr2 : RM (fun k => k = G) W3 w2 := (hr.then (RM.of_below hb)).then ⟨e0.os, e0.tape, e0.output, e0.size, fun k _ hk => q k hk⟩
  refine ⟨hr2, D ++ [(kv, dv)], by simp [hDl], hI2, fun j hj hj2 => ?_⟩
  rw [List.length_append, List.length_singleton] at hj
  rcases Nat.lt_or_ge j D.length with hlt | hge
  · rw [List.getElem_append_left hlt]
    obtain ⟨a1, a2⟩ := hall j hlt hj2
    exact ⟨a1.keep (fun k hk hl => (q k hk.2).trans (hb.block k hl)) (fun _ h _ => h), a2.keep (fun k hk hl => (q k hk.2).trans (hb.block k hl)) (fun _ h _ => h)⟩
  · obtain rfl : j = D.length := by omega
    rw [List.getElem_append_right (Nat.le_refl _)]
    simp only [Nat.sub_self, List.getElem_cons_zero]
    subst hDl
    exact ⟨hk.keep (fun k hk _ => q k (by omega)) (fun k hk _ => ⟨by omega, by omega⟩), hd.keep (fun k hk _ => q k (by omega)) (fun k hk _ => ⟨by omega, by omega⟩)⟩
set_option maxRecDepth 100000 in
set_option maxHeartbeats 8000000 in
theorem list_any (h : TopIs w p v m cn L) (hlim : L.length ≤ 100000) :
    Calls Try.prog 12 #[.pointer (some ⟨p, 0, none⟩)] w fun e w' => ∃ v', e = .returned v' ∧ ListIs w' (fun k => w.heap.size ≤ k) v' L ∧ Below w.heap.size w w' := by
  obtain ⟨s, d, S, hP, hH, hE, hS, hC, hL, hs⟩ := h.ex
  have hdl : d.length = L.length := by rw [← hL, List.length_map]; exact hE.length_eq
  have HCL := Lib.hid (tclone_any hP (by omega))
  obtain ⟨c0, c1, c2, c3⟩ := hP.cells
  have HUN : Hid (∀ d' : List Rk, d'.Perm d → (d'.Pairwise fun a b => cf a b ≤ 0) → d'.map Rk.it = L) := fun d' q1 q2 => by
    rw [← Top.asc_unique S d' (hE.symm.trans q1.symm) hS q2 cf_cmp.anti, hL]
  have HEL : Hid (∀ r ∈ d, RkIn w (fun k => k < w.heap.size) r) := fun r hr => (hP.el r hr).keep (fun _ _ _ => rfl) (fun _ _ h => h)
  have HDL := Lib.hid hdl
  clear h hP hH hE hS hC hL hs hdl c0 c2 c3
  go_enter Try.func12, Try.ntmps12
  go_wp2_with fail
  go_at_call 21
  refine HCL.out.mono ?_
  rintro e1 w1 ⟨v1, rfl, hv1, hb1⟩
  -- a sorted row, or none
  have HSRT : Hid (Calls Try.prog 22 #[v1, .func (.func 23) #[] #[]] w1 fun e w2 => e = .returned (.tuple #[]) ∧ ∃ d' a c, v1 = .slice a L.length c ∧ d'.map Rk.it = L ∧ (∀ r ∈ d', RkIn w (fun k => k < w.heap.size) r) ∧ (L.length = 0 ∨ ∃ g, a = some ⟨g, 0, none⟩ ∧ g < w2.heap.size ∧ RowRd w2 g d') ∧ Below w.heap.size w w2) := by
    have hdl := HDL.out
    rcases hv1 with ⟨rfl, rfl⟩ | ⟨g, cap, rfl, hg, hrow⟩
    · refine (tsortNil_any w1).mono ?_
      rintro e w2 ⟨rfl, rfl⟩
      have h0 : L.length = 0 := by rw [← hdl]; rfl
      exact ⟨rfl, [], none, 0, by rw [h0], by rw [List.eq_nil_of_length_eq_zero h0]; rfl, fun r hr => (by cases hr), .inl h0, hb1⟩
    · refine (tsort_any g cap d w1 (fun k => k < w.heap.size) (fun k hk => by omega) hrow (fun r hr => (HEL.out r hr).keep (fun k hk _ => hb1.block k hk) (fun _ h _ => h)) (by omega)).mono ?_
      rintro e w2 ⟨rfl, d', q1, q2, q3, q4⟩
      refine ⟨rfl, d', _, cap, by rw [← hdl], HUN.out d' q1 q2, fun r hr => HEL.out r (q1.mem_iff.1 hr), .inr ⟨g, rfl, ?_, q3⟩, ?_⟩
      · have := hrow.lt; have := q4.size; omega
      · exact hb1.trans (q4.below hb1.size (fun k hk => by omega))
  obtain ⟨a1, n1, ev1⟩ : ∃ a c, v1 = .slice a L.length c := by
    rcases hv1 with ⟨rfl, rfl⟩ | ⟨g, cap, rfl, hg, hrow⟩
    · exact ⟨none, 0, by rw [← HDL.out]; rfl⟩
    · exact ⟨_, cap, by rw [HDL.out]⟩
  clear hv1 hb1 HCL c1 HUN HEL
  subst ev1
  go_wp2_with fail
  go_at_call 22
  refine HSRT.out.mono ?_
  rintro e2 w2 ⟨rfl, d2, a2, c2, ev2, hL2, hel2, hrow2, hb2⟩
  cases ev2
  generalize hn : L.length = n at hrow2 hlim ⊢
  have hl2 : d2.length = n := by rw [← hn, ← hL2, List.length_map]
  have HLN := Lib.hid hn
  have HL2 := Lib.hid hL2; have HEL2 := Lib.hid hel2; have HROW := Lib.hid hrow2; have HB2 := Lib.hid hb2; have HDN := Lib.hid hl2
  clear HSRT HDL hn hL2 hel2 hrow2 hb2 hl2
  obtain ⟨MC, hMC, hmk⟩ := run_makeItems n hlim
  have HMC := Lib.hid hMC
  clear hMC
  go_upto_region 6 with fail
  have HI : Hid (ItAt (w2.alloc (.cells MC 30)) w2.heap.size n []) := ⟨_, heap_alloc_new w2 _, HMC.out, fun k hk => (by cases hk)⟩
  have hb3 : Below w2.heap.size w2 (w2.alloc (.cells MC 30)) := (Below.refl _ w2).alloc (Nat.le_refl _) _
  have HR3 : Hid (Below w.heap.size w (w2.alloc (.cells MC 30)) ∧ w.heap.size ≤ w2.heap.size ∧ (n = 0 ∨ ∃ g, a1 = some ⟨g, 0, none⟩ ∧ g < w2.heap.size ∧ RowRd (w2.alloc (.cells MC 30)) g d2)) := by
    refine ⟨HB2.out.trans (hb3.mono HB2.out.size), HB2.out.size, HROW.out.imp id fun ⟨g, h1, h2, h3⟩ => ⟨g, h1, h2, fun i hi => ?_⟩⟩
    obtain ⟨q0, q1, q2⟩ := h3 i hi
    exact ⟨cell_keepW hb3 q0, cell_keepW hb3 q1, cell_keepW hb3 q2⟩
  have HG0 : Hid (w.heap.size ≤ w2.heap.size) := HB2.out.size
  clear hmk hb3 HMC HROW HB2
  generalize w2.alloc (.cells MC 30) = w3 at HI HR3 ⊢
  generalize w2.heap.size = G at HI HR3 HG0 ⊢
  go_wp2_with fail
  go_loopw [21] (fun ii wr => ∃ i : Nat, i ≤ n ∧ ii = .int .i64 i ∧ Hid (LRel w w3 G n L i wr)) (fun ii _ => n - (intOf ii).toNat)
  case atStart => exact ⟨0, Nat.zero_le _, rfl, RM.refl _ _, [], rfl, HI.out, fun j hj => (by cases hj)⟩
  case round =>
    obtain ⟨i, hi, rfl, HL⟩ := hrel
    by_cases hlt : i < n
    · have hlt' : (i : Int) < (n : Int) := by omega
      obtain ⟨g, rfl, hgG, hrd⟩ := HR3.out.2.2.resolve_left (by omega)
      have hid : i < d2.length := by rw [HDN.out]; exact hlt
      obtain ⟨q0', q1', q2'⟩ := hrd i hid
      have hkeep : ∀ b o u, b < G → w3.cell? ⟨b, o, none⟩ = some u → wr.cell? ⟨b, o, none⟩ = some u := fun b o u hb hc => HL.out.1.cell hc (by omega)
      have q0 := hkeep _ _ _ hgG q0'; have q1 := hkeep _ _ _ hgG q1'; have q2 := hkeep _ _ _ hgG q2'
      clear q0' q1' q2'
      have hel := HEL2.out d2[i] (List.getElem_mem hid)
      have HBW : Hid (Below w.heap.size w wr) := HR3.out.1.trans (HL.out.1.below HR3.out.1.size (fun k hk => by have := HR3.out.2.1; omega))
      have HLi : Hid (∃ hiL : i < L.length, L[i] = (d2[i].k, d2[i].d)) := ⟨by rw [HLN.out]; exact hlt, by
        have e : (d2.map Rk.it)[i]'(by simpa using hid) = d2[i].it := List.getElem_map ..
        have e2 := HL2.out
        subst e2
        exact e⟩
      have HCK : Hid (∀ W, Below wr.heap.size wr W → SlQ W (fun k => k < w.heap.size) d2[i].kv d2[i].k ∧ SlQ W (fun k => k < w.heap.size) d2[i].dv d2[i].d) := fun W hW => ⟨(hel.k.keep (fun k hk _ => HBW.out.block k hk) (fun _ h _ => h)).below hW, (hel.d.keep (fun k hk _ => HBW.out.block k hk) (fun _ h _ => h)).below hW⟩
      obtain ⟨⟨x1, x2, x3, ek⟩, ⟨x4, x5, x6, ed⟩⟩ := RkIn.shapes hel
      rw [ek, ed] at HCK
      rw [ek] at q0; rw [ed] at q1
      generalize d2[i].kv = kv0 at ek; generalize d2[i].dv = dv0 at ed
      generalize d2[i].k = k0 at HLi HCK; generalize d2[i].d = dd0 at HLi HCK
      generalize d2[i].c = rc at q2
      clear hrd hid hkeep hel ek ed
      go_upto_region 9 with fail
      have hb4 : Below wr.heap.size wr (wr.alloc (.cells #[.slice x1 x2 x3, .slice x4 x5 x6, .int .i64 rc] 49)) := (Below.refl _ wr).alloc (Nat.le_refl _) _
      have z0 : (wr.alloc (.cells #[.slice x1 x2 x3, .slice x4 x5 x6, .int .i64 rc] 49)).cell? ⟨wr.heap.size, 0, none⟩ = some (.slice x1 x2 x3) := by simp
      have z1 : (wr.alloc (.cells #[.slice x1 x2 x3, .slice x4 x5 x6, .int .i64 rc] 49)).cell? ⟨wr.heap.size, 1, none⟩ = some (.slice x4 x5 x6) := by simp
      have HB4 := Lib.hid hb4
      have HCL := Lib.hid (clone_any _ _ _ _ k0 dd0 (HCK.out _ hb4).1 (HCK.out _ hb4).2)
      clear hb4 HCK q0 q1 q2
      generalize wr.alloc (.cells #[.slice x1 x2 x3, .slice x4 x5 x6, .int .i64 rc] 49) = w4 at HB4 HCL z0 z1 ⊢
      go_wp2_with fail
      go_at_call 24
      refine HCL.out.mono ?_
      rintro e5 w5 ⟨kv5, dv5, rfl, hk5, hd5, hb5⟩
      have hb45 : Below wr.heap.size wr w5 := HB4.out.trans (hb5.mono HB4.out.size)
      have HN : Hid (LRel w w3 G n L (i + 1) (puts w5 G (i * 2) [kv5, dv5])) := by
        obtain ⟨hiL, he⟩ := HLi.out
        have s4 := HB4.out.size
        exact HL.out.next (by have := HR3.out.1.size; omega) hlt HLN.out hb45 (by rw [he]; exact hk5.mono (fun k hk _ => Nat.le_trans s4 hk)) (by rw [he]; exact hd5.mono (fun k hk _ => Nat.le_trans s4 hk)) rfl
      obtain ⟨D, hDl, hI, _⟩ := HL.out.2
      have hI5 := hI.same (hb45.block G hI.lt)
      obtain ⟨⟨y0', y0⟩, ⟨y1', y1⟩⟩ := hI5.cell hlt
      have f0 := hI5.frozen (i * 2); have f1 := hI5.frozen (i * 2 + 1)
      obtain ⟨a5, c5, e5⟩ := hk5.shape
      obtain ⟨a6, c6, e6⟩ := hd5.shape
      obtain ⟨l5, hl5⟩ : ∃ z, z = k0.length := ⟨_, rfl⟩
      obtain ⟨l6, hl6⟩ : ∃ z, z = dd0.length := ⟨_, rfl⟩
      rw [← hl5] at e5; rw [← hl6] at e6
      subst e5; subst e6
      simp only [puts, World.setCells] at HN
      clear hb45 hI hI5 hDl hk5 hd5 hb5 hl5 hl6 HCL HB4 HLi HL z0 z1 HBW
      go_wp2_with fail
      go_roundw
      case rel => exact ⟨i + 1, by omega, by go_num, HN.out⟩
      case measure => simp [intOf]; omega
    · obtain rfl : i = n := by omega
      have HB : Hid (Below w.heap.size w wr) := HR3.out.1.trans (HL.out.1.below HR3.out.1.size (fun k hk => by have := HR3.out.2.1; omega))
      have HG : Hid (w.heap.size ≤ G) := HG0.out
      go_wp2_with fail
      go_ret
      obtain ⟨_, D, hDl, hI, hall⟩ := HL.out
      obtain ⟨cs, hr, hcs, ha⟩ := hI.cur
      refine ⟨_, rfl, ⟨G, i, by rw [HLN.out]; rfl, by rw [HLN.out]; omega, HG.out, hI.lt, fun j hj => ?_⟩, HB.out⟩
      have hjD : j < D.length := by rw [hDl, ← HLN.out]; exact hj
      obtain ⟨b1, b2⟩ := ha j hjD
      obtain ⟨s1, s2⟩ := hall j hjD hj
      exact ⟨D[j].1, D[j].2, (cell_of_row wr G _ _ _ _ hr).trans b1, (cell_of_row wr G _ _ _ _ hr).trans b2, s1.mono (fun k hk _ => hk.1), s2.mono (fun k hk _ => hk.1)⟩
end
end Go.Proofs.Ytfkkckadnookoaa
