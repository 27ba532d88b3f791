/- aqueductlaw13.HeapKeeps. -/
import Derived.Test.YtfkkckadnookoaaTopSortedWalk
namespace Go.Proofs.Ytfkkckadnookoaa
open Go.RowKit
open Seal
theorem ItemsA.take {w : World} {a : Option Addr} {L : List (List Nat × List Nat)} (h : ItemsA w a L) (m : Nat) : ItemsA w a (L.take m) := by
  rcases h with rfl | ⟨g, o, rfl, hall⟩
  · exact .inl (by simp)
  · refine .inr ⟨g, o, rfl, fun i hi => ?_⟩
    have hi2 : i < L.length := by rw [List.length_take] at hi; omega
    rw [List.getElem_take]
    exact hall i hi2
theorem bytesOf_mem : ∀ {L : List (List Nat × List Nat)} {x : List Nat × List Nat}, x ∈ L → x.1.length + x.2.length ≤ bytesOf L
  | [], x, h => by cases h
  | y :: L, x, h => by
    have e : bytesOf (y :: L) = (y.1.length + y.2.length) + bytesOf L := rfl
    rw [e]
    rcases List.mem_cons.1 h with rfl | h
    · omega
    · have := bytesOf_mem h; omega
theorem srt_it (X : List La) : (Top.srt cl X).map La.it = Top.srt ck (X.map La.it) := by
  have : ∀ (X A : List La), (X.foldl (fun a x => Top.ins cl x a) A).map La.it = (X.map La.it).foldl (fun a x => Top.ins ck x a) (A.map La.it) := by
    intro X
    induction X with
    | nil => exact fun A => rfl
    | cons x X ih =>
      intro A
      rw [List.foldl_cons, ih, List.map_cons, List.foldl_cons, Top.ins_map (k := ck) La.it x A (fun y _ => Iff.rfl)]
  exact this X []
/-- How many of the first j come ahead of x, or with its key. -/
def cnt (x : List Nat × List Nat) (L : List (List Nat × List Nat)) : Nat := L.countP fun y => decide (ck y x ≤ 0)
theorem cnt_succ (x : List Nat × List Nat) (L : List (List Nat × List Nat)) (j : Nat) (h : j < L.length) : cnt x (L.take (j + 1)) = cnt x (L.take j) + if Order.octs x.1 L[j].1 < 0 then 0 else 1 := by
  unfold cnt
  rw [List.take_succ_eq_append_getElem h, List.countP_append]
  congr 1
  have := ck_cmp.anti x L[j]
  have e : ck x L[j] = Order.octs x.1 L[j].1 := rfl
  by_cases hc : Order.octs x.1 L[j].1 < 0
  · rw [if_pos hc, List.countP_cons_of_neg (by simp; omega)]; rfl
  · rw [if_neg hc, List.countP_cons_of_pos (by simp; omega)]; rfl
theorem cnt_le (x : List Nat × List Nat) (L : List (List Nat × List Nat)) : cnt x L ≤ L.length := List.countP_le_length
theorem sz_succ (L : List (List Nat × List Nat)) (j : Nat) (h : j < L.length) : sz (L.take (j + 1)) = sz (L.take j) + (32 + L[j].1.length + L[j].2.length) := by
  rw [List.take_succ_eq_append_getElem h, sz_append]
  simp [sz, wt]
set_option maxRecDepth 100000 in
set_option maxHeartbeats 16000000 in
theorem keeps13_any (k : Int) (hk : -9223372036854775808 ≤ k ∧ k ≤ 9223372036854775807) (a : Option Addr) (c : Nat) (L : List (List Nat × List Nat)) (w : World) (h : ItemsA w a L) (hc : L.length ≤ c) (hm : c ≤ 9223372036854775807) :
    Calls Try.prog 3 #[.int .i64 k, .slice a L.length c] w fun e w' => e = .returned (.bool true) ∧ Below w.heap.size w w' := by
  obtain ⟨m, hm0⟩ : ∃ m, m = (max k 0).toNat := ⟨_, rfl⟩
  have hM : max k 0 = (m : Int) := by omega
  have hm63 : m ≤ 9223372036854775807 := by omega
  obtain ⟨n, hn⟩ : ∃ n, n = L.length := ⟨_, rfl⟩
  have HN := Lib.hid hn
  have HA := Lib.hid h
  have HM0 := Lib.hid hm0
  have HFEW := Lib.hid (fun W (hW : ItemsA W a L) => few13_any a c L W hW hc hm)
  rw [← hn] at HFEW hc ⊢
  clear h hn hm0
  go_enter Try.func3, Try.ntmps3
  go_wp2_with fail
  go_at_call 6
  refine (awake13_any w).mono ?_
  rintro e1 w1 ⟨rfl, hw1⟩
  have HB1 := Lib.hid hw1
  clear hw1
  by_cases hfew : n ≤ 200 ∧ bytesOf L ≤ 10000
  · obtain ⟨hn200, hby⟩ := hfew
    rw [show (decide (n ≤ 200) && decide (bytesOf L ≤ 10000)) = true by simp [hn200, hby]] at HFEW
    have HLEN : Hid (∀ x ∈ L, x.1.length ≤ 10000 ∧ x.2.length ≤ 10000) := fun x hx => by have := bytesOf_mem hx; omega
    clear hby
    go_wp2_with fail
    go_at_call 7
    refine (HFEW.out w1 (HA.out.keep (HB1.out.mono (Nat.le_refl _)))).mono ?_
    rintro e2 w2 ⟨rfl, q2, hw2⟩
    have HB2 : Hid (Below w.heap.size w w2) := HB1.out.trans (by rw [hw2]; exact ⟨rfl, rfl, rfl, Nat.le_refl _, fun _ _ => rfl⟩)
    clear hw2 HB1 HFEW
    go_wp2_with fail
    go_at_call 8
    refine (new_any k w2 hk).mono ?_
    rintro e3 w3 ⟨rfl, hT3, hw3⟩
    rw [← HM0.out] at hT3
    have HT3 := Lib.hid hT3
    have HB3 : Hid (Below w.heap.size w w3) := HB2.out.trans (hw3.mono HB2.out.size)
    have HPa := Lib.hid HB2.out.size
    generalize w2.heap.size = p at HT3 HPa ⊢
    clear hT3 hw3 HB2 hk
    go_upto_region 10 with fail
    go_loopw [7] (fun ii wr => ∃ i : Nat, i ≤ n ∧ ii = .int .i64 i ∧ Hid (∃ v cn, cn ≤ i ∧ TopIs wr p v m cn ((Top.srt ck (L.take i)).take m)) ∧ Hid (Below w.heap.size w wr)) (fun ii _ => n - (intOf ii).toNat)
    case atStart => exact ⟨0, Nat.zero_le _, rfl, ⟨_, 0, Nat.le_refl _, by rw [List.take_zero]; simpa [Top.srt] using HT3.out⟩, HB3.out⟩
    case round =>
      obtain ⟨i, hi, rfl, HT, HB⟩ := hrel
      by_cases hlt : i < n
      · have hlt' : (i : Int) < (n : Int) := by omega
        have hiL : i < L.length := by rw [← HN.out]; exact hlt
        obtain ⟨v, cn, hcn, hT⟩ := HT.out
        have HIA := Lib.hid (HA.out.keep (HB.out.mono (Nat.le_refl _)))
        obtain ⟨g, og, rfl, hall⟩ := HIA.out.resolve_left (fun e => by rw [e] at hiL; cases hiL)
        obtain ⟨kv, dv, q0, q1, q2', q3⟩ := hall i hiL
        have hb2 := HLEN.out L[i] (List.getElem_mem hiL)
        have HMD := Lib.hid (made_any wr _ kv dv L[i].1 L[i].2 (q2'.sl hb2.1) (q3.sl hb2.2))
        obtain ⟨ka, kc, ek⟩ := (q2'.sl hb2.1).shape
        obtain ⟨da, dc, ed⟩ := (q3.sl hb2.2).shape
        have HTk : Hid (Top.takes ck m L[i] ((Top.srt ck (L.take i)).take m) = decide (cnt L[i] (L.take i) < m)) := Top.takes_srt ck_cmp m L[i] (L.take i)
        have HNx : Hid (Top.nxt ck m L[i] ((Top.srt ck (L.take i)).take m) = (Top.srt ck (L.take (i + 1))).take m) := by
          unfold Hid
          rw [Top.nxt_srt ck_cmp, List.take_succ_eq_append_getElem hiL]
        have HXL : Hid (L[i]? = some L[i]) := List.getElem?_eq_getElem hiL
        have HLA := Lib.hid hb2
        generalize L[i] = x at HMD HTk HNx ek ed HXL HLA
        have hLl : (L.take i).length ≤ i := by rw [List.length_take]; omega
        have HLk : Hid (((Top.srt ck (L.take i)).take m).length ≤ 200) := by unfold Hid; rw [List.length_take, (Top.srt_perm _).length_eq]; omega
        have HTT := Lib.hid hT
        have HCN := Lib.hid hcn
        generalize (Top.srt ck (L.take i)).take m = Lk at HTk HNx HLk HTT
        generalize x.1.length = kl at ek
        generalize x.2.length = dl at ed
        subst ek; subst ed
        clear hall q2' q3 hb2 hLl hT hcn HT hiL
        go_wp2_with fail
        go_at_call 10
        refine HMD.out.mono ?_
        rintro e4 w4 ⟨k4, d4, rfl, hk4, hd4, hw4⟩
        have HT4 := Lib.hid (HTT.out.keep hw4)
        have HB4 : Hid (Below w.heap.size w w4) := HB.out.trans (hw4.mono HB.out.size)
        have HAD := Lib.hid (add_any HT4.out (by have := HCN.out; omega) (by have := HLk.out; omega) (fun g => wr.heap.size ≤ g) k4 d4 x.1 x.2 hk4 hd4 (fun g hg e => by have := HTT.out.ge e; omega))
        clear hk4 hd4 hw4 HMD HTT HB HIA q0 q1
        go_wp2_with fail
        go_at_call 9
        refine HAD.out.mono ?_
        rintro e5 w5 ⟨rfl, v5, c5, hc5, hT5, hR5, _, _⟩
        rw [show (x.1, x.2) = x from rfl] at hT5 ⊢
        rw [HNx.out] at hT5
        rw [HTk.out]
        have HT5 := Lib.hid hT5
        have HC5 : Hid (c5 ≤ i + 1) := by have := HCN.out; unfold Hid; omega
        have HB5 : Hid (Below w.heap.size w w5) := HB4.out.trans (hR5.below HB4.out.size (fun k hk => by have := HT4.out.ge hk; have := HPa.out; omega))
        clear hT5 hR5 hc5 HAD HT4 HB4 HCN HTk HNx HLk
        have HIA5 := Lib.hid ((HA.out.keep (HB5.out.mono (Nat.le_refl _))).take (i + 1))
        obtain ⟨X, hX, hXe, hXs⟩ := items_la HIA5.out (fun y hy => HLEN.out y (List.mem_of_mem_take hy))
        have hl1 : (L.take (i + 1)).length = i + 1 := by rw [List.length_take, ← HN.out]; omega
        have HSO := Lib.hid (sorted13_any (some ⟨g, og, none⟩) c (L.take (i + 1)) X w5 hX hXe hXs (by rw [hl1]; omega))
        rw [hl1] at HSO
        have HEI : Hid ((Top.srt cl X).map La.it = Top.srt ck (L.take (i + 1))) := by unfold Hid; rw [srt_it, hX]
        have HEL : Hid ((Top.srt cl X).length = i + 1) := by unfold Hid; rw [(Top.srt_perm _).length_eq, ← hl1, ← hX, List.length_map]
        have HEM : Hid (∀ r ∈ Top.srt cl X, LaIn w5 w5.heap.size r) := fun r hr => hXe r ((Top.srt_perm _).mem_iff.1 hr)
        generalize Top.srt cl X = E at HSO HEI HEL HEM
        have hi1 : (i : Int) + 1 ≤ (c : Int) := by omega
        have hi2 : i + 1 ≤ c := by omega
        clear hX hXe hXs hl1 HIA5
        go_wp2_with fail
        go_at_call 11
        refine HSO.out.mono ?_
        rintro e6 w6 ⟨v6, rfl, hS6, hw6⟩
        have HT6 := Lib.hid (HT5.out.keep hw6)
        have HB6 : Hid (Below w.heap.size w w6) := HB5.out.trans (hw6.mono HB5.out.size)
        have HEM6 : Hid (∀ r ∈ E, LaIn w6 w5.heap.size r) := fun r hr => (HEM.out r hr).keep hw6
        obtain ⟨a6, c6, rfl, hc6, hrow6⟩ := hS6
        rw [HEL.out] at hc6 hrow6 ⊢
        obtain ⟨g6, rfl, hg6, hrow6⟩ := hrow6.resolve_left (by omega)
        have HROW := Lib.hid hrow6
        have hc61 := hc6.1; have hc62 := hc6.2
        have HLK : Hid (((Top.srt ck (L.take (i + 1))).take m).length = min m (i + 1)) := by unfold Hid; rw [List.length_take, ← HEI.out, List.length_map, HEL.out]
        have HLKG : Hid (∀ j (hj : j < ((Top.srt ck (L.take (i + 1))).take m).length), ∃ hE : j < E.length, E[j].it = ((Top.srt ck (L.take (i + 1))).take m)[j]) := fun j hj => by
          have hj2 : j < (Top.srt ck (L.take (i + 1))).length := by rw [List.length_take] at hj; omega
          have hj3 : j < E.length := by have := congrArg List.length HEI.out; rw [List.length_map] at this; omega
          refine ⟨hj3, ?_⟩
          rw [List.getElem_take]
          have e := HEI.out
          have : (E.map La.it)[j]'(by rw [List.length_map]; exact hj3) = (Top.srt ck (L.take (i + 1)))[j] := by simp only [e]
          rw [← this, List.getElem_map]
        generalize hLq : (Top.srt ck (L.take (i + 1))).take m = Lq at HT6 HLK HLKG
        have HLQE := Lib.hid hLq
        clear hLq
        clear hw6 HT5 HB5 HEM hc6 hrow6 HSO HEI
        have HLI := Lib.hid (list_any HT6.out (by rw [HLK.out]; omega))
        have HTL := Lib.hid (fun W (h : TopIs W p v5 m c5 Lq) => tlen_any h)
        rw [HLK.out] at HTL
        by_cases hmi : m < i + 1
        · have hq : min m (i + 1) = m := by omega
          have d1 : (m : Int) < (i : Int) + 1 := by omega
          have d2 : (m : Int) ≤ (c6 : Int) := by omega
          have d3 : m ≤ c6 := by omega
          have HLQ : Hid (Lq.length = m) := HLK.out.trans hq
          rw [hq] at HTL
          have hqc : m ≤ 201 := by omega
          go_wp2_with fail
          go_at_call 12
          refine HLI.out.mono ?_
          rintro e7 w7 ⟨v7, rfl, hL7, hw7⟩
          obtain ⟨g7, c7, rfl, _, _, _, hit⟩ := hL7
          rw [HLQ.out]
          have HT7 := Lib.hid (HT6.out.keep hw7)
          have HB7 : Hid (Below w.heap.size w w7) := HB6.out.trans (hw7.mono HB6.out.size)
          have HROW7 := Lib.hid (HROW.out.same (hw7.block g6 HROW.out.lt))
          have HEM7 : Hid (∀ r ∈ E, LaIn w7 w5.heap.size r) := fun r hr => (HEM6.out r hr).keep (hw7.mono (by have := HROW.out.lt; omega))
          have HIT := Lib.hid hit
          have HTL7 := Lib.hid (HTL.out w7 HT7.out)
          have HSZ7 := Lib.hid (fun W (hW : Below w7.heap.size w7 W) => tsize_any (HT7.out.keep hW))
          clear hit hw7 HT6 HB6 HROW HEM6 HLI HTL
          go_wp2_with fail
          go_at_call 13
          refine HTL7.out.mono ?_
          rintro e8 w8 ⟨rfl, rfl⟩
          clear HTL7
          go_upto_region 21 with fail
          go_loopw [11, 13] (fun zz jj wr => ∃ j : Nat, j ≤ m ∧ jj = .int .i64 j ∧ zz = .int .i64 (sz (Lq.take j)) ∧ Hid (Below w8.heap.size w8 wr)) (fun _ jj _ => m - (intOf jj).toNat)
          case atStart => exact ⟨0, Nat.zero_le _, rfl, by simp [sz], Below.refl _ _⟩
          case round =>
            obtain ⟨j, hj, rfl, rfl, HBL⟩ := hrel
            by_cases hjq : j < m
            · have b1 : (j : Int) < (m : Int) := by omega
              have hjL : j < Lq.length := by rw [HLQ.out]; exact hjq
              obtain ⟨xk, xd, z0', z1', z2, z3⟩ := HIT.out j hjL
              obtain ⟨hjE, hEj⟩ := HLKG.out j hjL
              obtain ⟨y0', y1'⟩ := HROW7.out.cell hjE
              have hEin := HEM7.out E[j] (List.getElem_mem hjE)
              have ke : Lq[j].1 = E[j].k := by rw [← hEj]; rfl
              have de : Lq[j].2 = E[j].d := by rw [← hEj]; rfl
              have z0 := cell_keepW HBL.out z0'; have z1 := cell_keepW HBL.out z1'
              have y0 := cell_keepW HBL.out y0'; have y1 := cell_keepW HBL.out y1'
              clear z0' z1' y0' y1'
              have HSM := Lib.hid (same13_any wr.drew _ _ xk xd E[j].kv E[j].dv Lq[j].1 Lq[j].2 ((z2.below HBL.out).keep (fun _ _ _ => rfl) (fun _ h _ => h)) ((z3.below HBL.out).keep (fun _ _ _ => rfl) (fun _ h _ => h))
                (by rw [ke]; exact (hEin.k.below HBL.out).keep (fun _ _ _ => rfl) (fun _ h _ => h)) (by rw [de]; exact (hEin.d.below HBL.out).keep (fun _ _ _ => rfl) (fun _ h _ => h)))
              obtain ⟨xa, xc, exk⟩ := z2.shape
              obtain ⟨xb, xe, exd⟩ := z3.shape
              have HSS := Lib.hid (sz_succ Lq j hjL)
              have hlk1 := z2.lim; have hlk2 := z3.lim
              have hszb : sz (Lq.take j) ≤ 100000 * 20032 := by
                have : ∀ (M : List (List Nat × List Nat)), (∀ y ∈ M, y.1.length ≤ 10000 ∧ y.2.length ≤ 10000) → sz M ≤ M.length * 20032 := by
                  intro M
                  induction M with
                  | nil => intro _; simp [sz]
                  | cons y M ih =>
                    intro hM
                    have h1 := ih fun z hz => hM z (List.mem_cons_of_mem _ hz)
                    have h2 := hM y List.mem_cons_self
                    have : sz (y :: M) = (32 + y.1.length + y.2.length) + sz M := rfl
                    rw [this, List.length_cons]; omega
                have h3 := this (Lq.take j) (fun y hy => by
                  obtain ⟨t, ht, rfl⟩ := List.getElem_of_mem (List.mem_of_mem_take hy)
                  obtain ⟨_, _, _, _, u2, u3⟩ := HIT.out t ht
                  exact ⟨u2.lim, u3.lim⟩)
                have h4 : (Lq.take j).length ≤ 201 := by rw [List.length_take]; omega
                have h5 : (Lq.take j).length * 20032 ≤ 201 * 20032 := Nat.mul_le_mul_right _ h4
                omega
              generalize Lq[j].1.length = kl2 at exk HSS hlk1
              generalize Lq[j].2.length = dl2 at exd HSS hlk2
              generalize E[j].kv = ekv at y0 HSM; generalize E[j].dv = edv at y1 HSM
              generalize sz (Lq.take j) = sj at HSS hszb ⊢
              subst exk; subst exd
              clear z2 z3 hEin ke de hEj hjE hjL
              go_upto_region 23 with fail
              refine wp_region_still_tail 8 (by kernel_rfl) (by kernel_rfl) ?_
              simp only [List.take_succ_cons, List.take_zero, List.drop_succ_cons, List.drop_zero]
              show wpStill _ _ wr.drew _ _ _
              repeat still_step
              refine wpStill_nil ?_
              go_wp2_with fail
              go_at_call 14
              refine HSM.out.mono ?_
              rintro e9 w9 ⟨rfl, hw9⟩
              have hw9' : Below wr.heap.size wr w9 := of_drew hw9
              have z0 := cell_keepW hw9' z0; have z1 := cell_keepW hw9' z1
              have HBL9 : Hid (Below w8.heap.size w8 w9) := HBL.out.trans (hw9'.mono HBL.out.size)
              clear hw9 hw9' HSM y0 y1 HBL
              go_wp2_with fail
              go_quiet (fail)
              go_wp2_with fail
              exact ⟨⟨j + 1, by omega, by go_num, by rw [HSS.out]; congr 1; omega, HBL9.out.trans ⟨rfl, rfl, rfl, Nat.le_refl _, fun _ _ => rfl⟩⟩, by simp [intOf]; omega⟩
            · obtain rfl : m = j := by omega
              have hLqt : Lq.take (m) = Lq := List.take_of_length_le (by rw [HLQ.out]; exact Nat.le_refl _)
              rw [hLqt]
              have HBW : Hid (Below w.heap.size w wr) := HB7.out.trans (HBL.out.mono HB7.out.size)
              have HTW := Lib.hid (HT7.out.keep HBL.out)
              have HSIZ := Lib.hid (fun W (hW : Below wr.heap.size wr W) => HSZ7.out W (HBL.out.trans (hW.mono HBL.out.size)))
              generalize (sz Lq : Int) = zq at HSIZ ⊢
              clear hLqt HBL HT7 HB7 HIT HROW7 HEM7 HSZ7 HLKG HLK
              generalize wr = wo at HBW HTW HSIZ ⊢
              go_upto_region 28 with fail
              go_loopw [14, 15] (fun xx jj wr => ∃ t : Nat, t ≤ i ∧ jj = .int .i64 t ∧ xx = .int .i64 (cnt x (L.take t)) ∧ Hid (∃ qn, wr = wo.drewN qn)) (fun _ jj _ => i - (intOf jj).toNat)
              case atStart => exact ⟨0, Nat.zero_le _, rfl, by simp [cnt], 0, rfl⟩
              case round =>
                obtain ⟨t, ht, rfl, rfl, HW2⟩ := hrel
                by_cases hti : t < i
                · have b1 : (t : Int) < (i : Int) := by omega
                  have b2 : (i : Int) < (n : Int) := by omega
                  have b3 : (t : Int) < (n : Int) := by omega
                  have hiL : i < L.length := by rw [← HN.out]; omega
                  have htL : t < L.length := by rw [← HN.out]; omega
                  obtain ⟨g0, o0, eg, hall⟩ := (HA.out.keep (HBW.out.mono (Nat.le_refl _))).resolve_left (fun e => by rw [e] at hiL; cases hiL)
                  cases eg
                  obtain ⟨kv, dv, p0, p1, p2, p3⟩ := hall i hiL
                  obtain ⟨kt, dt, r0, r1, r2, r3⟩ := hall t htL
                  have hx : L[i] = x := by have := HXL.out; rw [List.getElem?_eq_getElem hiL] at this; exact Option.some.inj this
                  rw [hx] at p2
                  obtain ⟨qn, hqn⟩ := HW2.out
                  have c0 : wr.cell? ⟨g, og + i * 2, none⟩ = some kv := by rw [hqn, World.cell?_drewN]; exact p0
                  have c1 : wr.cell? ⟨g, og + t * 2, none⟩ = some kt := by rw [hqn, World.cell?_drewN]; exact r0
                  obtain ⟨ka3, kc3, ek3⟩ : ∃ a c, kv = .slice a x.1.length c := by obtain ⟨a, c, e, _⟩ := p2.shp; exact ⟨a, c, e⟩
                  obtain ⟨ka4, kc4, ek4⟩ : ∃ a c, kt = .slice a L[t].1.length c := by obtain ⟨a, c, e, _⟩ := r2.shp; exact ⟨a, c, e⟩
                  have HAH : Hid (∀ q, Calls Try.prog 15 #[kv, kt] (wr.drewN q) fun e w' => e = .returned (.bool (decide (Order.octs x.1 L[t].1 < 0))) ∧ ∃ m, w' = (wr.drewN q).drewN m) := fun q => by
                    have hd : Below wo.heap.size wo (wr.drewN q) := by rw [hqn]; exact ⟨rfl, rfl, rfl, Nat.le_refl _, fun _ _ => rfl⟩
                    obtain ⟨a3, c3, e3, _, s3⟩ := (p2.keep hd).shp
                    obtain ⟨a4, c4, e4, _, s4⟩ := (r2.keep hd).shp
                    subst e3; subst e4
                    exact ahead13_any a3 c3 _ a4 c4 _ _ s3 s4 p2.lim r2.lim
                  have HCS := Lib.hid (cnt_succ x L t htL)
                  have HCL : Hid (cnt x (L.take t) ≤ 200) := by have := cnt_le x (L.take t); rw [List.length_take] at this; unfold Hid; omega
                  rw [ek3, ek4] at HAH
                  rw [ek3] at c0; rw [ek4] at c1
                  generalize x.1.length = xl3 at c0 HAH
                  generalize L[t].1.length = xl4 at c1 HAH
                  by_cases hc : Order.octs x.1 L[t].1 < 0
                  · have hd : decide (Order.octs x.1 L[t].1 < 0) = true := by simpa using hc
                    rw [hd] at HAH
                    have HC2 : Hid (cnt x (L.take (t + 1)) = cnt x (L.take t)) := by unfold Hid; rw [HCS.out, if_pos hc]; rfl
                    generalize cnt x (L.take t) = ct at HC2 HCL ⊢
                    clear p0 p1 p2 p3 r0 r1 r2 r3 hall hx hd hc ek3 ek4 HCS htL hiL hqn
                    go_wp2_with fail
                    go_quiet ((go_at_call 15; exact Calls.quiet_of (HAH.out _)))
                    go_wp2_with fail
                    exact ⟨⟨t + 1, by omega, by go_num, by rw [HC2.out], by obtain ⟨z, hz⟩ := HW2.out; exact ⟨_, by rw [hz, World.drewN_drewN]⟩⟩, by simp [intOf]; omega⟩
                  · have hd : decide (Order.octs x.1 L[t].1 < 0) = false := by simpa using hc
                    rw [hd] at HAH
                    have HC2 : Hid (cnt x (L.take (t + 1)) = cnt x (L.take t) + 1) := by unfold Hid; rw [HCS.out, if_neg hc]
                    have hcl := HCL.out
                    generalize cnt x (L.take t) = ct at HC2 hcl HCL ⊢
                    clear p0 p1 p2 p3 r0 r1 r2 r3 hall hx hd hc ek3 ek4 HCS htL hiL hqn
                    go_wp2_with fail
                    go_quiet ((go_at_call 15; exact Calls.quiet_of (HAH.out _)))
                    go_wp2_with fail
                    exact ⟨⟨t + 1, by omega, by go_num, by rw [HC2.out]; rfl, by obtain ⟨z, hz⟩ := HW2.out; exact ⟨_, by rw [hz, World.drewN_drewN]⟩⟩, by simp [intOf]; omega⟩
                · obtain rfl : i = t := by omega
                  have HB9 : Hid (Below w.heap.size w wr) := by obtain ⟨z, hz⟩ := HW2.out; rw [hz]; exact HBW.out.trans ⟨rfl, rfl, rfl, Nat.le_refl _, fun _ _ => rfl⟩
                  have HT9 : Hid (TopIs wr p v5 m c5 Lq) := by obtain ⟨z, hz⟩ := HW2.out; rw [hz]; exact HTW.out.keep ⟨rfl, rfl, rfl, Nat.le_refl _, fun _ _ => rfl⟩
                  have HS9 := Lib.hid (HSIZ.out wr (by obtain ⟨z, hz⟩ := HW2.out; rw [hz]; exact ⟨rfl, rfl, rfl, Nat.le_refl _, fun _ _ => rfl⟩))
                  have HREL : Hid ((∃ v cn, cn ≤ i + 1 ∧ TopIs wr p v m cn ((Top.srt ck (L.take (i + 1))).take m)) ∧ Below w.heap.size w wr) := ⟨⟨v5, c5, HC5.out, by rw [HLQE.out]; exact HT9.out⟩, HB9.out⟩
                  generalize cnt x (L.take i) = ct
                  clear HW2 HBW HTW HSIZ HB9 HT9
                  by_cases hcm : ct < m
                  · have x1 : decide (ct < m) = true := by simpa using hcm
                    have x2 : (ct : Int) < (m : Int) := by omega
                    rw [x1]
                    clear hcm
                    go_wp2_with fail
                    go_at_call 16
                    refine HS9.out.mono ?_
                    rintro ea wa ⟨rfl, rfl⟩
                    go_wp2_with fail
                    exact ⟨⟨i + 1, by omega, by go_num, HREL.out.1, HREL.out.2⟩, by simp [intOf]; omega⟩
                  · have x1 : decide (ct < m) = false := by simpa using hcm
                    have x2 : ¬ (ct : Int) < (m : Int) := by omega
                    rw [x1]
                    clear hcm
                    go_wp2_with fail
                    go_at_call 16
                    refine HS9.out.mono ?_
                    rintro ea wa ⟨rfl, rfl⟩
                    go_wp2_with fail
                    exact ⟨⟨i + 1, by omega, by go_num, HREL.out.1, HREL.out.2⟩, by simp [intOf]; omega⟩
        · obtain ⟨q, hq0⟩ : ∃ q, q = i + 1 := ⟨_, rfl⟩
          have hq : min m (i + 1) = q := by omega
          have d1 : ¬ (m : Int) < (q : Int) := by omega
          rw [← hq0]
          have HLQ : Hid (Lq.length = q) := HLK.out.trans hq
          rw [hq] at HTL
          have hqc : q ≤ 201 := by omega
          go_wp2_with fail
          go_at_call 12
          refine HLI.out.mono ?_
          rintro e7 w7 ⟨v7, rfl, hL7, hw7⟩
          obtain ⟨g7, c7, rfl, _, _, _, hit⟩ := hL7
          rw [HLQ.out]
          have HT7 := Lib.hid (HT6.out.keep hw7)
          have HB7 : Hid (Below w.heap.size w w7) := HB6.out.trans (hw7.mono HB6.out.size)
          have HROW7 := Lib.hid (HROW.out.same (hw7.block g6 HROW.out.lt))
          have HEM7 : Hid (∀ r ∈ E, LaIn w7 w5.heap.size r) := fun r hr => (HEM6.out r hr).keep (hw7.mono (by have := HROW.out.lt; omega))
          have HIT := Lib.hid hit
          have HTL7 := Lib.hid (HTL.out w7 HT7.out)
          have HSZ7 := Lib.hid (fun W (hW : Below w7.heap.size w7 W) => tsize_any (HT7.out.keep hW))
          clear hit hw7 HT6 HB6 HROW HEM6 HLI HTL
          go_wp2_with fail
          go_at_call 13
          refine HTL7.out.mono ?_
          rintro e8 w8 ⟨rfl, rfl⟩
          clear HTL7
          go_upto_region 21 with fail
          go_loopw [11, 13] (fun zz jj wr => ∃ j : Nat, j ≤ q ∧ jj = .int .i64 j ∧ zz = .int .i64 (sz (Lq.take j)) ∧ Hid (Below w8.heap.size w8 wr)) (fun _ jj _ => q - (intOf jj).toNat)
          case atStart => exact ⟨0, Nat.zero_le _, rfl, by simp [sz], Below.refl _ _⟩
          case round =>
            obtain ⟨j, hj, rfl, rfl, HBL⟩ := hrel
            by_cases hjq : j < q
            · have b1 : (j : Int) < (q : Int) := by omega
              have hjL : j < Lq.length := by rw [HLQ.out]; exact hjq
              obtain ⟨xk, xd, z0', z1', z2, z3⟩ := HIT.out j hjL
              obtain ⟨hjE, hEj⟩ := HLKG.out j hjL
              obtain ⟨y0', y1'⟩ := HROW7.out.cell hjE
              have hEin := HEM7.out E[j] (List.getElem_mem hjE)
              have ke : Lq[j].1 = E[j].k := by rw [← hEj]; rfl
              have de : Lq[j].2 = E[j].d := by rw [← hEj]; rfl
              have z0 := cell_keepW HBL.out z0'; have z1 := cell_keepW HBL.out z1'
              have y0 := cell_keepW HBL.out y0'; have y1 := cell_keepW HBL.out y1'
              clear z0' z1' y0' y1'
              have HSM := Lib.hid (same13_any wr.drew _ _ xk xd E[j].kv E[j].dv Lq[j].1 Lq[j].2 ((z2.below HBL.out).keep (fun _ _ _ => rfl) (fun _ h _ => h)) ((z3.below HBL.out).keep (fun _ _ _ => rfl) (fun _ h _ => h))
                (by rw [ke]; exact (hEin.k.below HBL.out).keep (fun _ _ _ => rfl) (fun _ h _ => h)) (by rw [de]; exact (hEin.d.below HBL.out).keep (fun _ _ _ => rfl) (fun _ h _ => h)))
              obtain ⟨xa, xc, exk⟩ := z2.shape
              obtain ⟨xb, xe, exd⟩ := z3.shape
              have HSS := Lib.hid (sz_succ Lq j hjL)
              have hlk1 := z2.lim; have hlk2 := z3.lim
              have hszb : sz (Lq.take j) ≤ 100000 * 20032 := by
                have : ∀ (M : List (List Nat × List Nat)), (∀ y ∈ M, y.1.length ≤ 10000 ∧ y.2.length ≤ 10000) → sz M ≤ M.length * 20032 := by
                  intro M
                  induction M with
                  | nil => intro _; simp [sz]
                  | cons y M ih =>
                    intro hM
                    have h1 := ih fun z hz => hM z (List.mem_cons_of_mem _ hz)
                    have h2 := hM y List.mem_cons_self
                    have : sz (y :: M) = (32 + y.1.length + y.2.length) + sz M := rfl
                    rw [this, List.length_cons]; omega
                have h3 := this (Lq.take j) (fun y hy => by
                  obtain ⟨t, ht, rfl⟩ := List.getElem_of_mem (List.mem_of_mem_take hy)
                  obtain ⟨_, _, _, _, u2, u3⟩ := HIT.out t ht
                  exact ⟨u2.lim, u3.lim⟩)
                have h4 : (Lq.take j).length ≤ 201 := by rw [List.length_take]; omega
                have h5 : (Lq.take j).length * 20032 ≤ 201 * 20032 := Nat.mul_le_mul_right _ h4
                omega
              generalize Lq[j].1.length = kl2 at exk HSS hlk1
              generalize Lq[j].2.length = dl2 at exd HSS hlk2
              generalize E[j].kv = ekv at y0 HSM; generalize E[j].dv = edv at y1 HSM
              generalize sz (Lq.take j) = sj at HSS hszb ⊢
              subst exk; subst exd
              clear z2 z3 hEin ke de hEj hjE hjL
              go_upto_region 23 with fail
              refine wp_region_still_tail 8 (by kernel_rfl) (by kernel_rfl) ?_
              simp only [List.take_succ_cons, List.take_zero, List.drop_succ_cons, List.drop_zero]
              show wpStill _ _ wr.drew _ _ _
              repeat still_step
              refine wpStill_nil ?_
              go_wp2_with fail
              go_at_call 14
              refine HSM.out.mono ?_
              rintro e9 w9 ⟨rfl, hw9⟩
              have hw9' : Below wr.heap.size wr w9 := of_drew hw9
              have z0 := cell_keepW hw9' z0; have z1 := cell_keepW hw9' z1
              have HBL9 : Hid (Below w8.heap.size w8 w9) := HBL.out.trans (hw9'.mono HBL.out.size)
              clear hw9 hw9' HSM y0 y1 HBL
              go_wp2_with fail
              go_quiet (fail)
              go_wp2_with fail
              exact ⟨⟨j + 1, by omega, by go_num, by rw [HSS.out]; congr 1; omega, HBL9.out.trans ⟨rfl, rfl, rfl, Nat.le_refl _, fun _ _ => rfl⟩⟩, by simp [intOf]; omega⟩
            · obtain rfl : q = j := by omega
              have hLqt : Lq.take (q) = Lq := List.take_of_length_le (by rw [HLQ.out]; exact Nat.le_refl _)
              rw [hLqt]
              have HBW : Hid (Below w.heap.size w wr) := HB7.out.trans (HBL.out.mono HB7.out.size)
              have HTW := Lib.hid (HT7.out.keep HBL.out)
              have HSIZ := Lib.hid (fun W (hW : Below wr.heap.size wr W) => HSZ7.out W (HBL.out.trans (hW.mono HBL.out.size)))
              generalize (sz Lq : Int) = zq at HSIZ ⊢
              clear hLqt HBL HT7 HB7 HIT HROW7 HEM7 HSZ7 HLKG HLK
              generalize wr = wo at HBW HTW HSIZ ⊢
              go_upto_region 28 with fail
              go_loopw [14, 15] (fun xx jj wr => ∃ t : Nat, t ≤ i ∧ jj = .int .i64 t ∧ xx = .int .i64 (cnt x (L.take t)) ∧ Hid (∃ qn, wr = wo.drewN qn)) (fun _ jj _ => i - (intOf jj).toNat)
              case atStart => exact ⟨0, Nat.zero_le _, rfl, by simp [cnt], 0, rfl⟩
              case round =>
                obtain ⟨t, ht, rfl, rfl, HW2⟩ := hrel
                by_cases hti : t < i
                · have b1 : (t : Int) < (i : Int) := by omega
                  have b2 : (i : Int) < (n : Int) := by omega
                  have b3 : (t : Int) < (n : Int) := by omega
                  have hiL : i < L.length := by rw [← HN.out]; omega
                  have htL : t < L.length := by rw [← HN.out]; omega
                  obtain ⟨g0, o0, eg, hall⟩ := (HA.out.keep (HBW.out.mono (Nat.le_refl _))).resolve_left (fun e => by rw [e] at hiL; cases hiL)
                  cases eg
                  obtain ⟨kv, dv, p0, p1, p2, p3⟩ := hall i hiL
                  obtain ⟨kt, dt, r0, r1, r2, r3⟩ := hall t htL
                  have hx : L[i] = x := by have := HXL.out; rw [List.getElem?_eq_getElem hiL] at this; exact Option.some.inj this
                  rw [hx] at p2
                  obtain ⟨qn, hqn⟩ := HW2.out
                  have c0 : wr.cell? ⟨g, og + i * 2, none⟩ = some kv := by rw [hqn, World.cell?_drewN]; exact p0
                  have c1 : wr.cell? ⟨g, og + t * 2, none⟩ = some kt := by rw [hqn, World.cell?_drewN]; exact r0
                  obtain ⟨ka3, kc3, ek3⟩ : ∃ a c, kv = .slice a x.1.length c := by obtain ⟨a, c, e, _⟩ := p2.shp; exact ⟨a, c, e⟩
                  obtain ⟨ka4, kc4, ek4⟩ : ∃ a c, kt = .slice a L[t].1.length c := by obtain ⟨a, c, e, _⟩ := r2.shp; exact ⟨a, c, e⟩
                  have HAH : Hid (∀ q, Calls Try.prog 15 #[kv, kt] (wr.drewN q) fun e w' => e = .returned (.bool (decide (Order.octs x.1 L[t].1 < 0))) ∧ ∃ m, w' = (wr.drewN q).drewN m) := fun q => by
                    have hd : Below wo.heap.size wo (wr.drewN q) := by rw [hqn]; exact ⟨rfl, rfl, rfl, Nat.le_refl _, fun _ _ => rfl⟩
                    obtain ⟨a3, c3, e3, _, s3⟩ := (p2.keep hd).shp
                    obtain ⟨a4, c4, e4, _, s4⟩ := (r2.keep hd).shp
                    subst e3; subst e4
                    exact ahead13_any a3 c3 _ a4 c4 _ _ s3 s4 p2.lim r2.lim
                  have HCS := Lib.hid (cnt_succ x L t htL)
                  have HCL : Hid (cnt x (L.take t) ≤ 200) := by have := cnt_le x (L.take t); rw [List.length_take] at this; unfold Hid; omega
                  rw [ek3, ek4] at HAH
                  rw [ek3] at c0; rw [ek4] at c1
                  generalize x.1.length = xl3 at c0 HAH
                  generalize L[t].1.length = xl4 at c1 HAH
                  by_cases hc : Order.octs x.1 L[t].1 < 0
                  · have hd : decide (Order.octs x.1 L[t].1 < 0) = true := by simpa using hc
                    rw [hd] at HAH
                    have HC2 : Hid (cnt x (L.take (t + 1)) = cnt x (L.take t)) := by unfold Hid; rw [HCS.out, if_pos hc]; rfl
                    generalize cnt x (L.take t) = ct at HC2 HCL ⊢
                    clear p0 p1 p2 p3 r0 r1 r2 r3 hall hx hd hc ek3 ek4 HCS htL hiL hqn
                    go_wp2_with fail
                    go_quiet ((go_at_call 15; exact Calls.quiet_of (HAH.out _)))
                    go_wp2_with fail
                    exact ⟨⟨t + 1, by omega, by go_num, by rw [HC2.out], by obtain ⟨z, hz⟩ := HW2.out; exact ⟨_, by rw [hz, World.drewN_drewN]⟩⟩, by simp [intOf]; omega⟩
                  · have hd : decide (Order.octs x.1 L[t].1 < 0) = false := by simpa using hc
                    rw [hd] at HAH
                    have HC2 : Hid (cnt x (L.take (t + 1)) = cnt x (L.take t) + 1) := by unfold Hid; rw [HCS.out, if_neg hc]
                    have hcl := HCL.out
                    generalize cnt x (L.take t) = ct at HC2 hcl HCL ⊢
                    clear p0 p1 p2 p3 r0 r1 r2 r3 hall hx hd hc ek3 ek4 HCS htL hiL hqn
                    go_wp2_with fail
                    go_quiet ((go_at_call 15; exact Calls.quiet_of (HAH.out _)))
                    go_wp2_with fail
                    exact ⟨⟨t + 1, by omega, by go_num, by rw [HC2.out]; rfl, by obtain ⟨z, hz⟩ := HW2.out; exact ⟨_, by rw [hz, World.drewN_drewN]⟩⟩, by simp [intOf]; omega⟩
                · obtain rfl : i = t := by omega
                  have HB9 : Hid (Below w.heap.size w wr) := by obtain ⟨z, hz⟩ := HW2.out; rw [hz]; exact HBW.out.trans ⟨rfl, rfl, rfl, Nat.le_refl _, fun _ _ => rfl⟩
                  have HT9 : Hid (TopIs wr p v5 m c5 Lq) := by obtain ⟨z, hz⟩ := HW2.out; rw [hz]; exact HTW.out.keep ⟨rfl, rfl, rfl, Nat.le_refl _, fun _ _ => rfl⟩
                  have HS9 := Lib.hid (HSIZ.out wr (by obtain ⟨z, hz⟩ := HW2.out; rw [hz]; exact ⟨rfl, rfl, rfl, Nat.le_refl _, fun _ _ => rfl⟩))
                  have HREL : Hid ((∃ v cn, cn ≤ i + 1 ∧ TopIs wr p v m cn ((Top.srt ck (L.take (i + 1))).take m)) ∧ Below w.heap.size w wr) := ⟨⟨v5, c5, HC5.out, by rw [HLQE.out]; exact HT9.out⟩, HB9.out⟩
                  generalize cnt x (L.take i) = ct
                  clear HW2 HBW HTW HSIZ HB9 HT9
                  by_cases hcm : ct < m
                  · have x1 : decide (ct < m) = true := by simpa using hcm
                    have x2 : (ct : Int) < (m : Int) := by omega
                    rw [x1]
                    clear hcm
                    go_wp2_with fail
                    go_at_call 16
                    refine HS9.out.mono ?_
                    rintro ea wa ⟨rfl, rfl⟩
                    go_wp2_with fail
                    exact ⟨⟨i + 1, by omega, by go_num, HREL.out.1, HREL.out.2⟩, by simp [intOf]; omega⟩
                  · have x1 : decide (ct < m) = false := by simpa using hcm
                    have x2 : ¬ (ct : Int) < (m : Int) := by omega
                    rw [x1]
                    clear hcm
                    go_wp2_with fail
                    go_at_call 16
                    refine HS9.out.mono ?_
                    rintro ea wa ⟨rfl, rfl⟩
                    go_wp2_with fail
                    exact ⟨⟨i + 1, by omega, by go_num, HREL.out.1, HREL.out.2⟩, by simp [intOf]; omega⟩
      · obtain rfl : i = n := by omega
        go_wp2_with fail
        go_ret
        exact ⟨rfl, HB.out⟩
  · have hb : (decide (n ≤ 200) && decide (bytesOf L ≤ 10000)) = false := by
      rw [Bool.and_eq_false_iff]
      by_cases h1 : n ≤ 200
      · exact .inr (by simp; omega)
      · exact .inl (by simpa using h1)
    rw [hb] at HFEW
    clear hb hfew
    go_wp2_with fail
    go_at_call 7
    refine (HFEW.out w1 (HA.out.keep (HB1.out.mono (Nat.le_refl _)))).mono ?_
    rintro e2 w2 ⟨rfl, q2, hw2⟩
    have HB2 : Hid (Below w.heap.size w w2) := HB1.out.trans (by rw [hw2]; exact ⟨rfl, rfl, rfl, Nat.le_refl _, fun _ _ => rfl⟩)
    clear hw2 HB1 HFEW
    go_wp2_with fail
    go_ret
    exact ⟨rfl, HB2.out⟩
theorem keeps13_walk (k : Int) (a : Option Addr) (n c : Nat) (L : List (List Nat × List Nat)) (w : World) (ha : -9223372036854775808 ≤ k) (hb : k ≤ 9223372036854775807) (hn : L.length = n) (hc : n ≤ c) (hm : c ≤ 9223372036854775807) (h : ItemsA w a L) :
    Calls Try.prog 3 #[.int .i64 k, .slice a n c] w fun e w' => e = .returned (.bool true) ∧ Below w.heap.size w w' := by
  subst hn
  exact keeps13_any k ⟨ha, hb⟩ a c L w h hc hm
end Go.Proofs.Ytfkkckadnookoaa
