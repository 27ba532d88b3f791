/- (*Top).dropLast, keep. -/
import Derived.Test.YtfkkckadnookoaaTopKeep
namespace Go.Proofs.Ytfkkckadnookoaa
open Go.RowKit
open Seal
section
variable {w : World} {p : Nat} {m c s : Int} {v : Value} {d : List Rk}
def wt (x : List Nat × List Nat) : Nat := 32 + x.1.length + x.2.length
set_option maxRecDepth 100000 in
set_option maxHeartbeats 4000000 in
theorem drop_any (n : Nat) (h : PileAt w p m c s v d) (hh : Top.Heap cf d d.length) (hl : d.length = n + 1) (hlim : d.length ≤ 100000) (hs : -1000000000000 ≤ s ∧ s ≤ 1000000000000) :
    Calls Try.prog 19 #[.pointer (some ⟨p, 0, none⟩)] w fun e w' => e = .returned (.tuple #[]) ∧ ∃ (r : Rk) (v' : Value) (d' : List Rk), PileAt w' p m c (s - wt r.it) v' d' ∧ (d' ++ [r]).Perm d ∧ (∀ x ∈ d, cf x r ≤ 0) ∧ Top.Heap cf d' d'.length ∧ RM (PF p v) w w' ∧ ∀ k, PF p v' k → PF p v k := by
  have HC := Lib.hid (hpop_any n h hh hl (by omega))
  have HSH : Hid (∀ r ∈ d, (∃ a c, r.kv = .slice a r.k.length c) ∧ (∃ a c, r.dv = .slice a r.d.length c) ∧ r.k.length ≤ 10000 ∧ r.d.length ≤ 10000) := fun r hr => ⟨(h.el r hr).k.shape, (h.el r hr).d.shape, (h.el r hr).k.lim, (h.el r hr).d.lim⟩
  clear h hh hl hlim
  go_enter Try.func19, Try.ntmps19
  go_wp2_with fail
  go_at_call 26
  refine HC.out.mono ?_
  rintro e1 w1 ⟨r, v1, d1, rfl, hP1, hE1, hT1, hH1, hR1, hF1⟩
  obtain ⟨⟨ka, kc, ek⟩, ⟨da, dc, ed⟩, hkl, hdl⟩ := HSH.out r (hE1.mem_iff.1 (by simp))
  have HP1 := Lib.hid hP1; have HE1 := Lib.hid hE1; have HT1 := Lib.hid hT1; have HH1 := Lib.hid hH1; have HR1 := Lib.hid hR1; have HF1 := Lib.hid hF1
  obtain ⟨kn, hkn⟩ : ∃ n, n = r.k.length := ⟨_, rfl⟩
  obtain ⟨dn, hdn⟩ : ∃ n, n = r.d.length := ⟨_, rfl⟩
  have HWT : Hid (32 + (kn : Int) + (dn : Int) = (wt r.it : Int)) := by
    rw [hkn, hdn]
    show 32 + (r.k.length : Int) + (r.d.length : Int) = ((32 + r.k.length + r.d.length : Nat) : Int)
    omega
  rw [← hkn] at ek hkl; rw [← hdn] at ed hdl
  rw [ek, ed]
  obtain ⟨rc, hrc⟩ : ∃ z, z = (r.c : Int) := ⟨_, rfl⟩
  rw [← hrc]
  clear ek ed hkn hdn hrc hP1 hE1 hT1 hH1 hR1 hF1 HC HSH
  go_upto_region 2 with fail
  rw [assertR]
  simp only [Result.andThen]
  rw [Oper.upon_value]
  go_upto_region 2 with fail
  have hb : Below w1.heap.size w1 (w1.alloc (.cells #[.slice ka kn kc, .slice da dn dc, .int .i64 rc] 49)) := (Below.refl _ w1).alloc (Nat.le_refl _) _
  have HX : Hid ((w1.alloc (.cells #[.slice ka kn kc, .slice da dn dc, .int .i64 rc] 49)).heap[w1.heap.size]? = some (.cells #[.slice ka kn kc, .slice da dn dc, .int .i64 rc] 49 (0, 0))) := heap_alloc_new w1 _
  have HP2 := Lib.hid (HP1.out.keep hb)
  have HR2 : Hid (RM (PF p v) w (w1.alloc (.cells #[.slice ka kn kc, .slice da dn dc, .int .i64 rc] 49))) := HR1.out.then (RM.of_below hb)
  clear hb HP1 HR1
  generalize w1.alloc (.cells #[.slice ka kn kc, .slice da dn dc, .int .i64 rc] 49) = w2 at HX HP2 HR2 ⊢
  have HZ : Hid (w1.heap.size < w2.heap.size) := (Array.getElem?_eq_some_iff.1 HX.out).1
  refine wp_region_sink 10 (fun V => { tmps := #[.pointer (some ⟨p, 0, none⟩), undef, .pointer (some ⟨w1.heap.size, 0, none⟩), .bool true, .tuple #[.agg #[.slice ka kn kc, .slice da dn dc, .int .i64 rc], .bool true], .pointer (some ⟨p, 0, none⟩), .pointer (some ⟨p, 0, none⟩), .pointer (some ⟨p, 1, none⟩), .iface 56 (.pointer (some ⟨p, 1, none⟩)), .iface 49 (.agg #[.slice ka kn kc, .slice da dn dc, .int .i64 rc]), .tuple #[.agg #[.slice ka kn kc, .slice da dn dc, .int .i64 rc], .bool true], .agg #[.slice ka kn kc, .slice da dn dc, .int .i64 rc], .bool true, .bool true, V 0, V 1, V 2, V 3, V 4, V 5, V 6, V 7, V 8, V 9], defers := [] }) [Fact.is (.pointer (some ⟨p, 0, none⟩)), Fact.is (.pointer (some ⟨p, 0, none⟩)), Fact.is (.pointer (some ⟨p, 3, none⟩)), Fact.is (.int .i64 s), Fact.is (.pointer (some ⟨w1.heap.size, 0, none⟩)), Fact.is (.agg #[.slice ka kn kc, .slice da dn dc]), Fact.is (.int .i64 (32 + (kn : Int) + (dn : Int))), Fact.is (.int .i64 (s - (32 + (kn : Int) + (dn : Int)))), Fact.is (.pointer (some ⟨p, 0, none⟩)), Fact.is (.pointer (some ⟨p, 3, none⟩))] rfl (by kernel_rfl) (by kernel_rfl) (by kernel_rfl) (by kernel_rfl) (by kernel_rfl) rfl (fun V => by kernel_rfl) ?_ ?_
  · refine ⟨?_, ?_⟩
    · refine fact_free rfl (fun V w3 hB hF K hK => ?_)
      go_simp
      exact put_is (by kernel_rfl) (hK.out (.pointer (some ⟨p, 0, none⟩)) w3 (Below.refl _ _) rfl)
    refine ⟨?_, ?_⟩
    · refine fact_free rfl (fun V w3 hB hF K hK => ?_)
      have h0 : V 0 = .pointer (some ⟨p, 0, none⟩) := hF.out 0 (by kernel_rfl)
      go_simp
      exact put_is (by rw [h0]; kernel_rfl) (hK.out (.pointer (some ⟨p, 0, none⟩)) w3 (Below.refl _ _) rfl)
    refine ⟨?_, ?_⟩
    · refine fact_free rfl (fun V w3 hB hF K hK => ?_)
      have h1 : V 1 = .pointer (some ⟨p, 0, none⟩) := hF.out 1 (by kernel_rfl)
      go_simp
      exact put_is (by rw [h1]; kernel_rfl) (hK.out (.pointer (some ⟨p, 3, none⟩)) w3 (Below.refl _ _) rfl)
    refine ⟨?_, ?_⟩
    · refine fact_free rfl (fun V w3 hB hF K hK => ?_)
      have h2 : V 2 = .pointer (some ⟨p, 3, none⟩) := hF.out 2 (by kernel_rfl)
      obtain ⟨y0, y1, y2, y3⟩ := (HP2.out.keep hB).cells
      go_simp
      exact put_is (by rw [h2]; kernel_rfl) (hK.out (.int .i64 s) w3 (Below.refl _ _) rfl)
    refine ⟨?_, ?_⟩
    · refine fact_free rfl (fun V w3 hB hF K hK => ?_)
      go_simp
      exact put_is (by kernel_rfl) (hK.out (.pointer (some ⟨w1.heap.size, 0, none⟩)) w3 (Below.refl _ _) rfl)
    refine ⟨?_, ?_⟩
    · refine fact_free rfl (fun V w3 hB hF K hK => ?_)
      have h4 : V 4 = .pointer (some ⟨w1.heap.size, 0, none⟩) := hF.out 4 (by kernel_rfl)
      have hb1 := (hB.block w1.heap.size HZ.out).trans HX.out
      have y0 : w3.cell? ⟨w1.heap.size, 0, none⟩ = some (.slice ka kn kc) := (cell_of_row w3 _ 0 _ _ _ hb1).trans rfl
      have y1 : w3.cell? ⟨w1.heap.size, 1, none⟩ = some (.slice da dn dc) := (cell_of_row w3 _ 1 _ _ _ hb1).trans rfl
      go_simp
      exact put_is (by rw [h4]; kernel_rfl) (hK.out (.agg #[.slice ka kn kc, .slice da dn dc]) w3 (Below.refl _ _) rfl)
    refine ⟨?_, ?_⟩
    · refine fact_free rfl (fun V w3 hB hF K hK => ?_)
      have h5 : V 5 = .agg #[.slice ka kn kc, .slice da dn dc] := hF.out 5 (by kernel_rfl)
      go_simp
      go_at_call 27
      refine (weigh_any ka kn kc da dn dc w3 hkl hdl).mono ?_
      rintro e w4 ⟨rfl, hb4⟩
      exact put_is (by rw [h5]; kernel_rfl) (hK.out (.int .i64 (32 + (kn : Int) + (dn : Int))) w4 hb4 rfl)
    refine ⟨?_, ?_⟩
    · refine fact_free rfl (fun V w3 hB hF K hK => ?_)
      have h3 : V 3 = .int .i64 s := hF.out 3 (by kernel_rfl)
      have h6 : V 6 = .int .i64 (32 + (kn : Int) + (dn : Int)) := hF.out 6 (by kernel_rfl)
      have hwr := IntWalk.i64_in (s - (32 + (kn : Int) + (dn : Int))) (by omega)
      go_simp
      exact put_is (by rw [h3, h6]; kernel_rfl) (hK.out (.int .i64 (s - (32 + (kn : Int) + (dn : Int)))) w3 (Below.refl _ _) rfl)
    refine ⟨?_, ?_⟩
    · refine fact_free rfl (fun V w3 hB hF K hK => ?_)
      have h0 : V 0 = .pointer (some ⟨p, 0, none⟩) := hF.out 0 (by kernel_rfl)
      go_simp
      exact put_is (by rw [h0]; kernel_rfl) (hK.out (.pointer (some ⟨p, 0, none⟩)) w3 (Below.refl _ _) rfl)
    refine ⟨?_, ?_⟩
    · refine fact_free rfl (fun V w3 hB hF K hK => ?_)
      have h8 : V 8 = .pointer (some ⟨p, 0, none⟩) := hF.out 8 (by kernel_rfl)
      go_simp
      exact put_is (by rw [h8]; kernel_rfl) (hK.out (.pointer (some ⟨p, 3, none⟩)) w3 (Below.refl _ _) rfl)
    trivial
  · intro V w3 hB hF K hK
    have h7 : V 7 = .int .i64 (s - (32 + (kn : Int) + (dn : Int))) := hF.out 7 (by decide)
    have h9 : V 9 = .pointer (some ⟨p, 3, none⟩) := hF.out 9 (by decide)
    have HP3 := Lib.hid (HP2.out.keep hB)
    have HR3 : Hid (RM (PF p v) w w3) := HR2.out.then (RM.of_below hB)
    obtain ⟨y0, y1, y2, y3⟩ := HP3.out.cells
    have f3 := HP3.out.frozen 3
    rw [h7, h9]
    go_simp
    refine put_is (by rw [h7, h9]; kernel_rfl) (hK.out undef _ ?_)
    have HP4 := Lib.hid (HP3.out.size (s - (32 + (kn : Int) + (dn : Int))))
    have HR4 : Hid (RM (PF p v) w (w3.setCell ⟨p, 3, none⟩ (.int .i64 (s - (32 + (kn : Int) + (dn : Int)))))) := HR3.out.then ((RM.set1 w3 p 3 _).mono fun k _ e => .inl e)
    rw [HWT.out] at HP4 HR4 ⊢
    clear hK hF hB
    generalize w3.setCell _ _ = w4 at HP4 HR4 ⊢
    go_wp2_with fail
    go_end0
    exact ⟨rfl, r, v1, d1, HP4.out, HE1.out, HT1.out, HH1.out, HR4.out, HF1.out⟩
set_option maxRecDepth 100000 in
set_option maxHeartbeats 8000000 in
theorem keep_any (cn : Nat) (h : PileAt w p m (cn : Int) s v d) (hh : Top.Heap cf d d.length) (hlim : d.length < 100000) (hcn : cn ≤ 1000000) (hs : -1000000000000 ≤ s ∧ s ≤ 1000000000000) (Q : Nat → Prop) (kv dv : Value) (k dd : List Nat) (hk : SlQ w Q kv k) (hd : SlQ w Q dv dd) (hQ : ∀ g, Q g → ¬ PF p v g) :
    Calls Try.prog 20 #[.pointer (some ⟨p, 0, none⟩), .agg #[kv, dv]] w fun e w' => e = .returned (.tuple #[]) ∧ ∃ (r : Rk) (v' : Value) (d' : List Rk), r.it = (k, dd) ∧ r.c = cn ∧ PileAt w' p m ((cn : Int) + 1) (s + wt (k, dd)) v' d' ∧ d'.Perm (d ++ [r]) ∧ Top.Heap cf d' d'.length ∧ RM (PF p v) w w' ∧ ∀ k, k < w.heap.size → PF p v' k → PF p v k := by
  obtain ⟨ka, kc, ek⟩ := hk.shape
  obtain ⟨da, dc, ed⟩ := hd.shape
  have hkl := hk.lim; have hdl := hd.lim
  have HK := Lib.hid hk; have HD := Lib.hid hd; have HQ := Lib.hid hQ
  obtain ⟨kn, hkn⟩ : ∃ n, n = k.length := ⟨_, rfl⟩
  obtain ⟨dn, hdn⟩ : ∃ n, n = dd.length := ⟨_, rfl⟩
  have HWT : Hid (32 + (kn : Int) + (dn : Int) = (wt (k, dd) : Int)) := by
    rw [hkn, hdn]
    show 32 + (k.length : Int) + (dd.length : Int) = ((32 + k.length + dd.length : Nat) : Int)
    omega
  rw [← hkn] at ek hkl; rw [← hdn] at ed hdl
  subst ek; subst ed
  have HP := Lib.hid h; have HH := Lib.hid hh; have HL := Lib.hid hlim
  have hpw := h.lt
  clear h hh hlim hk hd hQ hkn hdn
  go_enter Try.func20, Try.ntmps20
  go_upto_region 1 with fail
  have hb : Below w.heap.size w (w.alloc (.cells #[.slice ka kn kc, .slice da dn dc] 30)) := (Below.refl _ w).alloc (Nat.le_refl _) _
  have HX : Hid ((w.alloc (.cells #[.slice ka kn kc, .slice da dn dc] 30)).heap[w.heap.size]? = some (.cells #[.slice ka kn kc, .slice da dn dc] 30 (0, 0))) := heap_alloc_new w _
  have HB0 := Lib.hid hb
  have HP0 := Lib.hid (HP.out.keep hb)
  have HK0 : Hid (SlQ (w.alloc (.cells #[.slice ka kn kc, .slice da dn dc] 30)) (fun g => g < w.heap.size ∧ Q g) (.slice ka kn kc) k) := (HK.out.mono (fun g hg hl => ⟨hl, hg⟩)).below hb
  have HD0 : Hid (SlQ (w.alloc (.cells #[.slice ka kn kc, .slice da dn dc] 30)) (fun g => g < w.heap.size ∧ Q g) (.slice da dn dc) dd) := (HD.out.mono (fun g hg hl => ⟨hl, hg⟩)).below hb
  clear hb HP HK HD
  generalize w.alloc (.cells #[.slice ka kn kc, .slice da dn dc] 30) = w2 at HX HB0 HP0 HK0 HD0 ⊢
  have HZ : Hid (w.heap.size < w2.heap.size) := (Array.getElem?_eq_some_iff.1 HX.out).1
  have HVO : Hid (v.ownBlock ≠ some w.heap.size) := fun e => by
    obtain ⟨_, ⟨rfl, _⟩ | ⟨b, cap, cs, rfl, hg, hr, _⟩⟩ := HP0.out.own
    · cases e
    · have e1 : b = w.heap.size := Option.some.inj e
      rw [e1, HX.out] at hr
      injection hr with q1
      injection q1 with _ q2 _
      exact absurd q2 (by decide)
  refine wp_region_sink 12 (fun V => { tmps := #[.pointer (some ⟨p, 0, none⟩), .agg #[.slice ka kn kc, .slice da dn dc], undef, .pointer (some ⟨w.heap.size, 0, none⟩), V 0, V 1, V 2, V 3, V 4, V 5, V 6, V 7, V 8, V 9, V 10, V 11, V 12, undef, undef, undef, undef, undef, undef, undef, undef, undef, undef, undef, undef, undef, undef, undef, undef], defers := [] }) [Fact.is (.pointer (some ⟨p, 0, none⟩)), Fact.is (.pointer (some ⟨p, 0, none⟩)), Fact.is (.pointer (some ⟨p, 1, none⟩)), Fact.is (.iface 56 (.pointer (some ⟨p, 1, none⟩))), Fact.is (.agg #[.slice ka kn kc, .slice da dn dc]), itF w2.heap.size k dd, Fact.is (.pointer (some ⟨p, 0, none⟩)), Fact.is (.pointer (some ⟨p, 0, none⟩)), Fact.is (.pointer (some ⟨p, 2, none⟩)), Fact.is (.int .i64 cn), ⟨fun v w => ∃ kv dv, v = .agg #[kv, dv, .int .i64 cn] ∧ SlQ w (fun g => w2.heap.size ≤ g) kv k ∧ SlQ w (fun g => w2.heap.size ≤ g) dv dd, fun _ _ _ ⟨kv, dv, e, h1, h2⟩ hb => ⟨kv, dv, e, h1.below hb, h2.below hb⟩⟩, ⟨fun v w => ∃ kv dv, v = .iface 49 (.agg #[kv, dv, .int .i64 cn]) ∧ SlQ w (fun g => w2.heap.size ≤ g) kv k ∧ SlQ w (fun g => w2.heap.size ≤ g) dv dd, fun _ _ _ ⟨kv, dv, e, h1, h2⟩ hb => ⟨kv, dv, e, h1.below hb, h2.below hb⟩⟩] rfl (by kernel_rfl) (by kernel_rfl) (by kernel_rfl) (by kernel_rfl) (by kernel_rfl) rfl (fun V => by kernel_rfl) ?_ ?_
  · refine ⟨?_, ?_⟩
    · refine fact_free rfl (fun V w3 hB hF K hK => ?_)
      go_simp
      exact put_is (by kernel_rfl) (hK.out (.pointer (some ⟨p, 0, none⟩)) w3 (Below.refl _ _) rfl)
    refine ⟨?_, ?_⟩
    · refine fact_free rfl (fun V w3 hB hF K hK => ?_)
      have h0 : V 0 = .pointer (some ⟨p, 0, none⟩) := hF.out 0 (by kernel_rfl)
      go_simp
      exact put_is (by rw [h0]; kernel_rfl) (hK.out (.pointer (some ⟨p, 0, none⟩)) w3 (Below.refl _ _) rfl)
    refine ⟨?_, ?_⟩
    · refine fact_free rfl (fun V w3 hB hF K hK => ?_)
      have h1 : V 1 = .pointer (some ⟨p, 0, none⟩) := hF.out 1 (by kernel_rfl)
      go_simp
      exact put_is (by rw [h1]; kernel_rfl) (hK.out (.pointer (some ⟨p, 1, none⟩)) w3 (Below.refl _ _) rfl)
    refine ⟨?_, ?_⟩
    · refine fact_free rfl (fun V w3 hB hF K hK => ?_)
      have h2 : V 2 = .pointer (some ⟨p, 1, none⟩) := hF.out 2 (by kernel_rfl)
      go_simp
      exact put_is (by rw [h2]; kernel_rfl) (hK.out (.iface 56 (.pointer (some ⟨p, 1, none⟩))) w3 (Below.refl _ _) rfl)
    refine ⟨?_, ?_⟩
    · refine fact_free rfl (fun V w3 hB hF K hK => ?_)
      have hb1 := (hB.block w.heap.size HZ.out).trans HX.out
      have y0 : w3.cell? ⟨w.heap.size, 0, none⟩ = some (.slice ka kn kc) := (cell_of_row w3 _ 0 _ _ _ hb1).trans rfl
      have y1 : w3.cell? ⟨w.heap.size, 1, none⟩ = some (.slice da dn dc) := (cell_of_row w3 _ 1 _ _ _ hb1).trans rfl
      go_simp
      exact put_is (by kernel_rfl) (hK.out (.agg #[.slice ka kn kc, .slice da dn dc]) w3 (Below.refl _ _) rfl)
    refine ⟨?_, ?_⟩
    · refine fact_free rfl (fun V w3 hB hF K hK => ?_)
      have h4 : V 4 = .agg #[.slice ka kn kc, .slice da dn dc] := hF.out 4 (by kernel_rfl)
      go_simp
      go_at_call 24
      refine (clone_any w3 _ _ _ k dd (HK0.out.below hB) (HD0.out.below hB)).mono ?_
      rintro e w4 ⟨k4, d4, rfl, hk4, hd4, hb4⟩
      exact put_is (by rw [h4]; kernel_rfl) (hK.out (.agg #[k4, d4]) w4 hb4 ⟨k4, d4, rfl, hk4.mono (fun g hg _ => Nat.le_trans hB.size hg), hd4.mono (fun g hg _ => Nat.le_trans hB.size hg)⟩)
    refine ⟨?_, ?_⟩
    · refine fact_free rfl (fun V w3 hB hF K hK => ?_)
      go_simp
      exact put_is (by kernel_rfl) (hK.out (.pointer (some ⟨p, 0, none⟩)) w3 (Below.refl _ _) rfl)
    refine ⟨?_, ?_⟩
    · refine fact_free rfl (fun V w3 hB hF K hK => ?_)
      have h6 : V 6 = .pointer (some ⟨p, 0, none⟩) := hF.out 6 (by kernel_rfl)
      go_simp
      exact put_is (by rw [h6]; kernel_rfl) (hK.out (.pointer (some ⟨p, 0, none⟩)) w3 (Below.refl _ _) rfl)
    refine ⟨?_, ?_⟩
    · refine fact_free rfl (fun V w3 hB hF K hK => ?_)
      have h7 : V 7 = .pointer (some ⟨p, 0, none⟩) := hF.out 7 (by kernel_rfl)
      go_simp
      exact put_is (by rw [h7]; kernel_rfl) (hK.out (.pointer (some ⟨p, 2, none⟩)) w3 (Below.refl _ _) rfl)
    refine ⟨?_, ?_⟩
    · refine fact_free rfl (fun V w3 hB hF K hK => ?_)
      have h8 : V 8 = .pointer (some ⟨p, 2, none⟩) := hF.out 8 (by kernel_rfl)
      obtain ⟨y0, y1, y2, y3⟩ := (HP0.out.keep hB).cells
      go_simp
      exact put_is (by rw [h8]; kernel_rfl) (hK.out (.int .i64 cn) w3 (Below.refl _ _) rfl)
    refine ⟨?_, ?_⟩
    · refine fact_free rfl (fun V w3 hB hF K hK => ?_)
      obtain ⟨k5, d5, h5, hk5, hd5⟩ : ∃ kv dv, V 5 = .agg #[kv, dv] ∧ SlQ w3 (fun g => w2.heap.size ≤ g) kv k ∧ SlQ w3 (fun g => w2.heap.size ≤ g) dv dd := hF.out 5 (by kernel_rfl)
      obtain ⟨a5, c5, e5⟩ := hk5.shape
      obtain ⟨a6, c6, e6⟩ := hd5.shape
      subst e5
      subst e6
      have h9 : V 9 = .int .i64 cn := hF.out 9 (by kernel_rfl)
      go_simp
      exact put_is (by rw [h5, h9]; kernel_rfl) (hK.out (.agg #[.slice a5 k.length c5, .slice a6 dd.length c6, .int .i64 cn]) w3 (Below.refl _ _) (⟨_, _, rfl, hk5, hd5⟩))
    refine ⟨?_, ?_⟩
    · refine fact_free rfl (fun V w3 hB hF K hK => ?_)
      obtain ⟨k5, d5, h10, hk5, hd5⟩ : ∃ kv dv, V 10 = .agg #[kv, dv, .int .i64 cn] ∧ SlQ w3 (fun g => w2.heap.size ≤ g) kv k ∧ SlQ w3 (fun g => w2.heap.size ≤ g) dv dd := hF.out 10 (by kernel_rfl)
      obtain ⟨a5, c5, e5⟩ := hk5.shape
      obtain ⟨a6, c6, e6⟩ := hd5.shape
      subst e5
      subst e6
      go_simp
      exact put_is (by rw [h10]; kernel_rfl) (hK.out (.iface 49 (.agg #[.slice a5 k.length c5, .slice a6 dd.length c6, .int .i64 cn])) w3 (Below.refl _ _) (⟨_, _, rfl, hk5, hd5⟩))
    trivial
  · intro V w3 hB hF K hK
    have h3 : V 3 = .iface 56 (.pointer (some ⟨p, 1, none⟩)) := hF.out 3 (by decide)
    obtain ⟨k5, d5, h11, hk5, hd5⟩ : ∃ kv dv, V 11 = .iface 49 (.agg #[kv, dv, .int .i64 cn]) ∧ SlQ w3 (fun g => w2.heap.size ≤ g) kv k ∧ SlQ w3 (fun g => w2.heap.size ≤ g) dv dd := hF.out 11 (by decide)
    have HP3 := Lib.hid (HP0.out.keep hB)
    have HR3 : Hid (RM (PF p v) w w3) := (RM.of_below HB0.out).then (RM.of_below hB)
    have HX3 := Lib.hid ((hB.block w.heap.size HZ.out).trans HX.out)
    have hnp : ∀ g, w2.heap.size ≤ g → ¬ PF p v g := fun g hg e => by
      have := HZ.out
      rcases e with e | e
      · omega
      · have := (owns_block HP0.out.own e).2; omega
    have HC := Lib.hid (hpush_any (r := ⟨k5, d5, cn, k, dd⟩) HP3.out HH.out ⟨hk5.mono (fun g hg _ => hnp g hg), hd5.mono (fun g hg _ => hnp g hg), hcn⟩ HL.out)
    have HVW : Hid (v.ownBlock ≠ some w.heap.size ∧ p < w.heap.size) := ⟨fun e => HVO.out e, hpw⟩
    clear hk5 hd5 hnp hF hB
    rw [h3, h11]
    go_simp
    go_at_call 28
    refine HC.out.mono ?_
    rintro e4 w4 ⟨rfl, v4, d4, hP4, hE4, hH4, hR4, hF4⟩
    have HE4 := Lib.hid hE4; have HH4 := Lib.hid hH4
    have HR4 : Hid (RM (PF p v) w w4) := HR3.out.then hR4
    have HF4 : Hid (∀ k, k < w.heap.size → PF p v4 k → PF p v k) := fun k hk e => hF4 k (by have := HR3.out.size; omega) e
    have HP4 := Lib.hid hP4
    have HX4 := Lib.hid ((hR4.block w.heap.size (Array.getElem?_eq_some_iff.1 HX3.out).1 (fun e => e.elim (fun e => by have := HVW.out.2; omega) HVW.out.1)).trans HX3.out)
    refine put_is (by rw [h3, h11]; kernel_rfl) (hK.out (.tuple #[]) w4 ?_)
    clear hK hP4 hE4 hH4 hR4 hF4 h3 h11 HC HP3 HR3 HX3 HK0 HD0
    obtain ⟨y0, y1, y2, y3⟩ := HP4.out.cells
    have f2 := HP4.out.frozen 2
    simp only [Act.put]
    go_upto_region 3 with fail
    have HP5 := Lib.hid (HP4.out.came ((cn : Int) + 1))
    have HR5 : Hid (RM (PF p v) w (w4.setCell ⟨p, 2, none⟩ (.int .i64 ((cn : Int) + 1)))) := HR4.out.then ((RM.set1 w4 p 2 _).mono fun k _ e => .inl e)
    have HX5 := Lib.hid (((RM.set1 w4 p 2 (.int .i64 ((cn : Int) + 1))).block w.heap.size (Array.getElem?_eq_some_iff.1 HX4.out).1 (by have := HVW.out.2; omega)).trans HX4.out)
    clear y0 y1 y2 y3 f2 HX4 HP4 HR4
    generalize w4.setCell _ _ = w5 at HP5 HR5 HX5 ⊢
    have HZ5 : Hid (w.heap.size < w5.heap.size) := (Array.getElem?_eq_some_iff.1 HX5.out).1
    refine wp_region_sink 9 (fun V6 => { tmps := #[.pointer (some ⟨p, 0, none⟩), .agg #[.slice ka kn kc, .slice da dn dc], undef, .pointer (some ⟨w.heap.size, 0, none⟩), V 0, V 1, V 2, V 3, V 4, V 5, V 6, V 7, V 8, V 9, V 10, V 11, .tuple #[], .pointer (some ⟨p, 0, none⟩), .pointer (some ⟨p, 0, none⟩), .pointer (some ⟨p, 2, none⟩), .int .i64 cn, .int .i64 ((cn : Int) + 1), .pointer (some ⟨p, 0, none⟩), .pointer (some ⟨p, 2, none⟩), V6 0, V6 1, V6 2, V6 3, V6 4, V6 5, V6 6, V6 7, V6 8], defers := [] }) [Fact.is (.pointer (some ⟨p, 0, none⟩)), Fact.is (.pointer (some ⟨p, 0, none⟩)), Fact.is (.pointer (some ⟨p, 3, none⟩)), Fact.is (.int .i64 s), Fact.is (.agg #[.slice ka kn kc, .slice da dn dc]), Fact.is (.int .i64 (32 + (kn : Int) + (dn : Int))), Fact.is (.int .i64 (s + (32 + (kn : Int) + (dn : Int)))), Fact.is (.pointer (some ⟨p, 0, none⟩)), Fact.is (.pointer (some ⟨p, 3, none⟩))] rfl (by kernel_rfl) (by kernel_rfl) (by kernel_rfl) (by kernel_rfl) (by kernel_rfl) rfl (fun V6 => by kernel_rfl) ?_ ?_
    · refine ⟨?_, ?_⟩
      · refine fact_free rfl (fun V6 w6 hB hF K hK => ?_)
        go_simp
        exact put_is (by kernel_rfl) (hK.out (.pointer (some ⟨p, 0, none⟩)) w6 (Below.refl _ _) rfl)
      refine ⟨?_, ?_⟩
      · refine fact_free rfl (fun V6 w6 hB hF K hK => ?_)
        have h0 : V6 0 = .pointer (some ⟨p, 0, none⟩) := hF.out 0 (by kernel_rfl)
        go_simp
        exact put_is (by rw [h0]; kernel_rfl) (hK.out (.pointer (some ⟨p, 0, none⟩)) w6 (Below.refl _ _) rfl)
      refine ⟨?_, ?_⟩
      · refine fact_free rfl (fun V6 w6 hB hF K hK => ?_)
        have h1 : V6 1 = .pointer (some ⟨p, 0, none⟩) := hF.out 1 (by kernel_rfl)
        go_simp
        exact put_is (by rw [h1]; kernel_rfl) (hK.out (.pointer (some ⟨p, 3, none⟩)) w6 (Below.refl _ _) rfl)
      refine ⟨?_, ?_⟩
      · refine fact_free rfl (fun V6 w6 hB hF K hK => ?_)
        have h2 : V6 2 = .pointer (some ⟨p, 3, none⟩) := hF.out 2 (by kernel_rfl)
        obtain ⟨y0, y1, y2, y3⟩ := (HP5.out.keep hB).cells
        go_simp
        exact put_is (by rw [h2]; kernel_rfl) (hK.out (.int .i64 s) w6 (Below.refl _ _) rfl)
      refine ⟨?_, ?_⟩
      · refine fact_free rfl (fun V6 w6 hB hF K hK => ?_)
        have hb1 := (hB.block w.heap.size HZ5.out).trans HX5.out
        have y0 : w6.cell? ⟨w.heap.size, 0, none⟩ = some (.slice ka kn kc) := (cell_of_row w6 _ 0 _ _ _ hb1).trans rfl
        have y1 : w6.cell? ⟨w.heap.size, 1, none⟩ = some (.slice da dn dc) := (cell_of_row w6 _ 1 _ _ _ hb1).trans rfl
        go_simp
        exact put_is (by kernel_rfl) (hK.out (.agg #[.slice ka kn kc, .slice da dn dc]) w6 (Below.refl _ _) rfl)
      refine ⟨?_, ?_⟩
      · refine fact_free rfl (fun V6 w6 hB hF K hK => ?_)
        have h4 : V6 4 = .agg #[.slice ka kn kc, .slice da dn dc] := hF.out 4 (by kernel_rfl)
        go_simp
        go_at_call 27
        refine (weigh_any ka kn kc da dn dc w6 hkl hdl).mono ?_
        rintro e w7 ⟨rfl, hb7⟩
        exact put_is (by rw [h4]; kernel_rfl) (hK.out (.int .i64 (32 + (kn : Int) + (dn : Int))) w7 hb7 rfl)
      refine ⟨?_, ?_⟩
      · refine fact_free rfl (fun V6 w6 hB hF K hK => ?_)
        have h3 : V6 3 = .int .i64 s := hF.out 3 (by kernel_rfl)
        have h5 : V6 5 = .int .i64 (32 + (kn : Int) + (dn : Int)) := hF.out 5 (by kernel_rfl)
        have hwr := IntWalk.i64_in (s + (32 + (kn : Int) + (dn : Int))) (by omega)
        go_simp
        exact put_is (by rw [h3, h5]; kernel_rfl) (hK.out (.int .i64 (s + (32 + (kn : Int) + (dn : Int)))) w6 (Below.refl _ _) rfl)
      refine ⟨?_, ?_⟩
      · refine fact_free rfl (fun V6 w6 hB hF K hK => ?_)
        have h0 : V6 0 = .pointer (some ⟨p, 0, none⟩) := hF.out 0 (by kernel_rfl)
        go_simp
        exact put_is (by rw [h0]; kernel_rfl) (hK.out (.pointer (some ⟨p, 0, none⟩)) w6 (Below.refl _ _) rfl)
      refine ⟨?_, ?_⟩
      · refine fact_free rfl (fun V6 w6 hB hF K hK => ?_)
        have h7 : V6 7 = .pointer (some ⟨p, 0, none⟩) := hF.out 7 (by kernel_rfl)
        go_simp
        exact put_is (by rw [h7]; kernel_rfl) (hK.out (.pointer (some ⟨p, 3, none⟩)) w6 (Below.refl _ _) rfl)
      trivial
    · intro V6 w6 hB hF K hK
      have h6 : V6 6 = .int .i64 (s + (32 + (kn : Int) + (dn : Int))) := hF.out 6 (by decide)
      have h8 : V6 8 = .pointer (some ⟨p, 3, none⟩) := hF.out 8 (by decide)
      have HP6 := Lib.hid (HP5.out.keep hB)
      have HR6 : Hid (RM (PF p v) w w6) := HR5.out.then (RM.of_below hB)
      obtain ⟨y0, y1, y2, y3⟩ := HP6.out.cells
      have f3 := HP6.out.frozen 3
      rw [h6, h8]
      go_simp
      refine put_is (by rw [h6, h8]; kernel_rfl) (hK.out undef _ ?_)
      have HP7 := Lib.hid (HP6.out.size (s + (32 + (kn : Int) + (dn : Int))))
      have HR7 : Hid (RM (PF p v) w (w6.setCell ⟨p, 3, none⟩ (.int .i64 (s + (32 + (kn : Int) + (dn : Int)))))) := HR6.out.then ((RM.set1 w6 p 3 _).mono fun k _ e => .inl e)
      rw [HWT.out] at HP7 HR7 ⊢
      clear hK hF hB
      generalize w6.setCell _ _ = w7 at HP7 HR7 ⊢
      go_wp2_with fail
      go_end0
      exact ⟨rfl, ⟨k5, d5, cn, k, dd⟩, rfl, rfl, v4, d4, HP7.out, HE4.out, HH4.out, HR7.out, HF4.out⟩
end
end Go.Proofs.Ytfkkckadnookoaa
