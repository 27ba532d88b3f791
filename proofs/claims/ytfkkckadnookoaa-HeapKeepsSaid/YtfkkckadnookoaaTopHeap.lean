/- heap.Push, heap.Pop; weigh, clone. -/
import Derived.Test.YtfkkckadnookoaaTopDown
import Derived.Test.YtfkkckadnookoaaRegSink
import Derived.Test.YtfkkckadnookoaaShelf
namespace Go.Proofs.Ytfkkckadnookoaa
open Go.RowKit
open Seal
section
variable {w : World} {p : Nat} {m c s : Int} {v : Value} {d : List Rk}
theorem PF.mono2 {v v2 : Value} (h : ∀ k, k < w.heap.size → PF p v2 k → PF p v k) {w1 w2 : World} (hr : RM (PF p v) w w1) (hr2 : RM (PF p v2) w1 w2) : RM (PF p v) w w2 := hr.trans hr2 h
set_option maxRecDepth 100000 in
set_option maxHeartbeats 4000000 in
theorem hpush_any (r : Rk) (h : PileAt w p m c s v d) (hh : Top.Heap cf d d.length) (hr : RkIn w (fun g => ¬ PF p v g) r) (hlim : d.length < 100000) :
    Calls Try.prog 28 #[.iface 56 (.pointer (some ⟨p, 1, none⟩)), .iface 49 (.agg #[r.kv, r.dv, .int .i64 r.c])] w fun e w' => e = .returned (.tuple #[]) ∧ ∃ v' d', PileAt w' p m c s v' d' ∧ d'.Perm (d ++ [r]) ∧ Top.Heap cf d' d'.length ∧ RM (PF p v) w w' ∧ ∀ k, k < w.heap.size → PF p v' k → PF p v k := by
  have HC := Lib.hid (ppush_any r h hr (by omega))
  have HU := Lib.hid (hh.up r)
  have HL : Hid ((d ++ [r]).length ≤ 1000000) := by unfold Hid; simp; omega
  have HL2 : Hid ((d ++ [r]).length = d.length + 1) := by unfold Hid; simp
  have hm := meth_push ⟨p, 1, none⟩ w
  generalize r.kv = kv at HC ⊢; generalize r.dv = dv at HC ⊢; generalize r.c = rc at HC ⊢
  generalize d ++ [r] = e at HC HU HL HL2 ⊢
  obtain ⟨n, hn⟩ : ∃ n, n = d.length := ⟨_, rfl⟩
  rw [← hn] at HU HL2 hlim
  clear h hh hr hn
  go_enter Try.func28, Try.ntmps28
  go_wp2_with fail
  go_at_call 74
  refine HC.out.mono ?_
  rintro e1 w1 ⟨rfl, v1, hP1, hR1, hF1⟩
  have HP1 := Lib.hid hP1; have HR1 := Lib.hid hR1; have HF1 := Lib.hid hF1
  have hm2 := meth_len ⟨p, 1, none⟩ v1 w1 hP1.cells.2.1
  obtain ⟨va, vc, rfl⟩ := hP1.shape
  rw [HL2.out] at hm2 HP1 HF1
  have HPL : Hid (∀ va' vc', Calls Try.prog 70 #[.slice va' (n + 1) vc'] w1 fun e w' => e = .returned (.int .i64 ((n : Int) + 1)) ∧ w' = w1) := fun va' vc' => plen_any (n + 1) va' vc' w1
  clear hm hP1 hR1 hF1 HC
  go_wp2_with fail
  go_at_call 70
  refine (HPL.out _ _).mono ?_
  rintro e2 w2 ⟨rfl, rfl⟩
  clear hm2 HPL
  go_wp2_with fail
  trace_state
  go_at_call 36
  refine (up_any n HP1.out (by rw [HL2.out]; omega) HU.out HL.out).mono ?_
  rintro e3 w3 ⟨rfl, d3, hP3, hE3, hH3, hR3⟩
  have HP3 := Lib.hid hP3; have HE3 := Lib.hid hE3; have HH3 := Lib.hid hH3; have HR3 := Lib.hid (PF.mono2 HF1.out HR1.out hR3)
  clear hP3 hE3 hH3 hR3
  go_wp2_with fail
  go_end0
  exact ⟨rfl, _, d3, HP3.out, HE3.out, HH3.out, HR3.out, HF1.out⟩
set_option maxRecDepth 100000 in
set_option maxHeartbeats 4000000 in
theorem hpop_any (n : Nat) (h : PileAt w p m c s v d) (hh : Top.Heap cf d d.length) (hl : d.length = n + 1) (hlim : d.length ≤ 1000000) :
    Calls Try.prog 26 #[.iface 56 (.pointer (some ⟨p, 1, none⟩))] w fun e w' => ∃ (r : Rk) (v' : Value) (d' : List Rk), e = .returned (.iface 49 (.agg #[r.kv, r.dv, .int .i64 r.c])) ∧ PileAt w' p m c s v' d' ∧ (d' ++ [r]).Perm d ∧ (∀ x ∈ d, cf x r ≤ 0) ∧ Top.Heap cf d' d'.length ∧ RM (PF p v) w w' ∧ ∀ k, PF p v' k → PF p v k := by
  have h0 : 0 < d.length := by omega
  have hnd : n < d.length := by omega
  have HTOP : Hid (∀ x ∈ d, cf x d[0] ≤ 0) := fun x hx => by
    obtain ⟨k, hk, rfl⟩ := List.getElem_of_mem hx
    exact hh.top cf_cmp k hk hk
  obtain ⟨d1, hd1⟩ : ∃ z, z = Top.swp d 0 n h0 hnd := ⟨_, rfl⟩
  obtain ⟨r, hr⟩ : ∃ z, z = d[0] := ⟨_, rfl⟩
  have hl1 : d1.length = n + 1 := by rw [hd1, Top.swp_length, hl]
  have HE1 : Hid (d1.Perm d) := by rw [hd1]; exact Top.swp_perm d 0 n h0 hnd
  have HD1 : Hid (Top.Down cf d1 0 n) := by
    have q := hh.down h0
    have hn : d.length - 1 = n := by omega
    rw [hd1]; simp only [hn] at q; exact q
  have HG1 : Hid (d1[n]? = some r) := by
    have q := Top.swp_get? d 0 n h0 hnd n
    rw [if_pos rfl] at q
    rw [hd1, hr]; exact q
  have HS : Hid (∀ w2, PileAt w2 p m c s v d → Calls Try.prog 72 #[v, .int .i64 0, .int .i64 (n : Int)] w2 fun r w' => r = .returned (.tuple #[]) ∧ PileAt w' p m c s v d1 ∧ RM (PF p v) w2 w') := fun w2 h2 => by
    rw [hd1]; exact swap_any h2 0 n h0 hnd
  rw [← hr] at HTOP
  have HP := Lib.hid h
  have hm := meth_len ⟨p, 1, none⟩ v w h.cells.2.1
  have hm2 := meth_swap ⟨p, 1, none⟩ v w h.cells.2.1
  have hn63 : n + 1 ≤ 1000000 := by omega
  have HL1 := Lib.hid hl1
  have HPL : Hid (∀ va' vc', Calls Try.prog 70 #[.slice va' (n + 1) vc'] w fun e w' => e = .returned (.int .i64 ((n : Int) + 1)) ∧ w' = w) := fun va' vc' => plen_any (n + 1) va' vc' w
  have HV := Lib.hid h.shape
  clear hd1 hr hl1 h hh h0 hnd
  go_enter Try.func26, Try.ntmps26
  go_wp2_with fail
  go_at_call 70
  obtain ⟨va, vc, ev⟩ := HV.out
  rw [hl] at ev
  rw [ev]
  refine (HPL.out _ _).mono ?_
  rintro e2 w2 ⟨rfl, rfl⟩
  clear hm HPL ev HV hl hlim
  go_wp2_with fail
  go_at_call 72
  refine (HS.out _ HP.out).mono ?_
  rintro e1 w1 ⟨rfl, hP1, hR1⟩
  have HP1 := Lib.hid hP1; have HR1 := Lib.hid hR1
  clear hm2 hP1 hR1 HS HP
  go_wp2_with fail
  go_at_call 35
  refine (down_any 0 n HP1.out (by rw [HL1.out]; omega) (by rw [HL1.out]; omega) HD1.out (by rw [HL1.out]; omega)).mono ?_
  rintro e3 w3 ⟨bb, d3, rfl, hP3, hE3, hH3, hK3, hR3⟩
  have HR3 : Hid (RM (PF p v) w2 w3) := HR1.out.then hR3
  have hl3 : d3.length = n + 1 := hE3.length_eq.trans HL1.out
  have hg3 : d3[n]? = some r := (hK3 n (Nat.le_refl _)).trans HG1.out
  have hsp : d3 = d3.take n ++ [r] := by
    have q : d3.drop n = [r] := by
      rw [List.drop_eq_getElem_cons (by omega), List.drop_eq_nil_of_le (by omega)]
      rw [List.getElem?_eq_getElem (by omega)] at hg3
      rw [Option.some.inj hg3]
    rw [← q, List.take_append_drop]
  have HE4 : Hid ((d3.take n ++ [r]).Perm d) := by unfold Hid; rw [← hsp]; exact hE3.trans HE1.out
  have HH4 := Lib.hid hH3.cut
  have HP4 : Hid (PileAt w3 p m c s v (d3.take n ++ [r])) := by unfold Hid; rw [← hsp]; exact hP3
  generalize d3.take n = d4 at HE4 HH4 HP4
  have HC4 := Lib.hid (ppop_any d4 r HP4.out)
  have hm5 := meth_pop ⟨p, 1, none⟩ w3
  clear hP3 hE3 hH3 hK3 hR3 hl3 hg3 hsp HP1 HR1
  go_wp2_with fail
  go_at_call 73
  refine HC4.out.mono ?_
  rintro e5 w5 ⟨rfl, v5, hP5, hR5, hF5⟩
  have HP5 := Lib.hid hP5; have HF5 := Lib.hid hF5; have HR5 : Hid (RM (PF p v) w2 w5) := HR3.out.then hR5
  clear hP5 hR5 hF5 hm5 HC4
  go_wp2_with fail
  go_ret
  exact ⟨r, v5, d4, rfl, HP5.out, HE4.out, HTOP.out, HH4.out, HR5.out, HF5.out⟩
end
theorem weigh_any (a1 : Option Addr) (n1 c1 : Nat) (a2 : Option Addr) (n2 c2 : Nat) (w : World) (h1 : n1 ≤ 10000) (h2 : n2 ≤ 10000) :
    Calls Try.prog 27 #[.agg #[.slice a1 n1 c1, .slice a2 n2 c2]] w fun e w' => e = .returned (.int .i64 (32 + (n1 : Int) + (n2 : Int))) ∧ Below w.heap.size w w' := by
  have hb := (Below.refl w.heap.size w).alloc (Nat.le_refl _) (.cells #[.slice a1 n1 c1, .slice a2 n2 c2] 30)
  go_enter Try.func27, Try.ntmps27
  go_wp2_with fail
  go_ret
  exact ⟨rfl, hb⟩
theorem cloneB_any (w : World) (Q : Nat → Prop) (v : Value) (l : List Nat) (h : SlQ w Q v l) :
    Calls Try.prog 33 #[v] w fun e w' => ∃ v', e = .returned v' ∧ SlQ w' (fun g => w.heap.size ≤ g) v' l ∧ Below w.heap.size w w' := by
  obtain ⟨⟨a, c, rfl, hc, hr⟩, ho, hl⟩ := h
  cases a with
  | none =>
    have hnil : l = [] := by
      rcases hr with h | ⟨g, o, e, _⟩
      · exact h
      · cases e
    subst hnil
    refine (Try.bytes_Clone_nil 0 c w).mono ?_
    rintro e w' ⟨rfl, rfl⟩
    exact ⟨_, rfl, ⟨⟨none, 0, rfl, ⟨Nat.le_refl _, by omega⟩, .inl rfl⟩, ho, hl⟩, Below.refl _ _⟩
  | some a =>
    refine (Try.bytes_Clone_at a l.length c (l.map fun x => ((x : Nat) : Int)) w (by simp) (by omega) (fun i hi => ?_)).mono ?_
    · rcases hr with h | ⟨g, o, e, _, h⟩
      · rw [h] at hi; simp at hi
      · obtain rfl := Option.some.inj e
        have := h i hi
        have ea : (⟨g, o, none⟩ : Addr).add i = ⟨g, o + i, none⟩ := by unfold Addr.add; split <;> simp_all
        rw [ea, this]
        simp [List.getD_eq_getElem?_getD, hi]
    · rintro e w' ⟨v', rfl, hown, hne, hb⟩
      obtain ⟨_, ⟨rfl, _⟩ | ⟨g, cap, cur, rfl, hg, hrow, hc, hm, hsz, htake⟩⟩ := hown
      · exact absurd rfl hne
      · refine ⟨_, rfl, ⟨⟨_, cap, rfl, ⟨hc, by unfold maxLen at hm; omega⟩, .inr ⟨g, 0, rfl, hg, fun j hj => ?_⟩⟩, ho, hl⟩, hb⟩
        have e1 : cur.toList[j]? = ((l.map fun x => ((x : Nat) : Int)).map (Value.int .u8))[j]? := by
          rw [← htake, List.getElem?_take_of_lt (by omega)]
        rw [Nat.zero_add, cell_of_row w' g j _ _ _ hrow, ← Array.getElem?_toList, e1]
        simp [List.getD_eq_getElem?_getD, hj]
end Go.Proofs.Ytfkkckadnookoaa
