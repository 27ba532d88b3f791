/- BsonPutNum, BsonWrap. -/
import Derived.Test.YtdihelpimpkfoaaDoorMg6
import Derived.Test.YtdihelpimpkfoaaDoorMg11
set_option maxRecDepth 100000
section
namespace Go.Proofs.YtdihelpimpkfoaaDoor
open Go.RowKit
open Seal
theorem oneNew8 (w : World) (v : Value) : ∀ j u, [v][j]? = some u → (w.alloc (.cells #[v] 5)).cell? ((⟨w.heap.size, 0, none⟩ : Addr).add j) = some u := by
  intro j u hj
  match j, hj with
  | 0, hj =>
    simp at hj; subst hj
    exact (cell_of_row _ _ 0 _ _ _ (heap_alloc_new w _)).trans rfl
theorem byteV (x : Int) (k : Nat) : (Value.int .u8 (x / 2 ^ (8 * k) % 256)) = u8 (Bson.byteAt x k) := by
  unfold u8 Bson.byteAt
  have h1 := Int.emod_nonneg (x / (2 ^ (8 * k) : Nat)) (show (256 : Int) ≠ 0 by decide)
  rw [Int.toNat_of_nonneg h1]
  simp
theorem wpList_append_room {P : Program} {w : World} {ops : Array Oper} {rest : List Oper} {o : Oper} {a : Act} {Q : Exit → Act → World → Prop} (hgd : o.guard = none) (s x : Operand) (t : TypeId)
    (ho : o.op = .call { callee := .builtin .append, args := #[s, x], argTypes := #[t, t] })
    (e : TypeId) (i : TypeInfo) (ht : P.underlying t = some (.slice e)) (hi : P.info? e = some i) (hz : i.size = 1) (g n cap : Nat) (cur : Array Value) (hs : a.eval s = .slice (some ⟨g, 0, none⟩) n cap) (hg : w.heap[g]? = some (.cells cur e (0, 0)))
    (ad : Addr) (m c : Nat) (news : List Value) (hx : a.eval x = .slice (some ad) m c) (hl : news.length = m) (hnews : ∀ j u, news[j]? = some u → w.cell? (ad.add j) = some u) (h1 : ∀ u ∈ news, u.oneCell' = true)
    (hroom : n + m ≤ cap) (hfit : n + news.length ≤ cur.size)
    (new : Array Value) (hnew : new = (cur.toList.take n ++ news ++ cur.toList.drop (n + news.length)).toArray)
    (h : ∀ w', w' = w.setRow g new → wpList P ops Q rest (a.put o.dst (.slice (some ⟨g, 0, none⟩) (n + m) cap)) w') : wpList P ops Q (o :: rest) a w := by
  refine wpList_plain hgd fun K hK => ?_
  have hr := run_append_room (P := P) w t o.type e i ht hi g n cap cur hg ad m c news (by rw [hz]; omega) hnews h1 hroom (by rw [hz]; omega)
  rw [hz, Nat.mul_one, ← hnew] at hr
  unfold Oper.wp execOp
  simp only [ho, resolve, invoke, builtin, Sem.run_bind, Sem.run_pure, Result.andThen_ok, List.map_toArray, List.map_cons, List.map_nil, hs, hx, hr]
  exact hK _ _ (h _ rfl)
set_option maxRecDepth 100000 in
set_option maxHeartbeats 1000000 in
theorem putNumber_own (w : World) (base : Nat) (v : Value) (bs : List Nat) (x : Int) (n : Nat) (hv : Own8 w base v bs) (hn : n ≤ 8) (hl : bs.length ≤ 1000000) :
    Calls Tryd.prog 23 #[v, .int .i64 x, .int .i64 (n : Int)] w fun e w' => ∃ v', e = .returned v' ∧ Own8 w' base v' (bs ++ Bson.putB x n) ∧ PutRel base w w' := by
  obtain ⟨i0, hi, hz0, hz1, hz2⟩ := info_parts infoU8
  have HV := Lib.hid hv
  obtain ⟨a0, c0, rfl, -, -⟩ := hv.shape
  obtain ⟨b0, hb0⟩ : ∃ b, b = bs.length := ⟨_, rfl⟩
  have HB0 := Lib.hid hb0
  rw [← hb0] at hl ⊢
  clear hv hb0
  go_enter Tryd.func23, Tryd.ntmps23
  go_wp2_with fail
  go_loopw [0, 9] (fun v i wr => ∃ k : Nat, k ≤ n ∧ i = .int .i64 k ∧ Hid (Own8 wr base v (bs ++ Bson.putB x k)) ∧ Hid (PutRel base w wr)) (fun _ i _ => n - (intOf i).toNat)
  case atStart => exact ⟨0, by omega, rfl, (by rw [HB0.out]; simpa [Bson.putB] using HV.out : Own8 w base (.slice a0 b0 c0) (bs ++ Bson.putB x 0)), PutRel.refl _ _⟩
  case round =>
    obtain ⟨k, hk, rfl, HO, HBk⟩ := hrel
    by_cases hlt : k < n
    · have hlen : (bs ++ Bson.putB x k).length = b0 + k := by rw [List.length_append, Bson.putB_length, HB0.out]
      have hown := HO.out.own
      rw [hlen] at hown
      have hsz := HO.out.sz
      have h8 : IntKind.i64.wrap (8 * (k : Int)) = 8 * (k : Int) := IntWalk.i64_in _ (by omega)
      go_wp2_with (at_builtin; refine wpList_append_own _ rfl _ _ 22 rfl base 5 i0 (.int .u8 0) 1 1 Tryd.underlying22 hi hz0 hz1 hz2 rfl (by decide) _ (b0 + k) _ rfl (hown.alloc _) ⟨wr.heap.size, 0, none⟩ 1 1 [.int .u8 (x / 2 ^ (8 * k) % 256)] rfl rfl ?c1 ?c2 ?c4 ?c5 ?c6 ?_)
      case c1 => exact oneNew8 _ _
      case c2 => intro u hu; simp at hu; subst hu; rfl
      case c4 => unfold maxLen; omega
      case c5 => omega
      case c6 => simp; omega
      intro v' w1 hown1 hgrow1 _
      have hB1 : PutRel base w w1 := HBk.out.trans ((PutRel.new ((Below.refl _ wr).alloc (Nat.le_refl _) _) hsz).trans (PutRel.own (hown.alloc _) (by simp; omega) hgrow1))
      have HO2 : Hid (Own8 w1 base v' (bs ++ Bson.putB x (k + 1))) := by
        refine ⟨?_, Nat.le_trans hsz (Nat.le_trans (by simp) hgrow1.size)⟩
        rw [byteV] at hown1
        rw [Bson.putB_succ, ← List.append_assoc, List.length_append, hlen, ← u8s_snoc]
        exact hown1
      have HB1 := Lib.hid hB1
      clear hown1 hgrow1 hown hB1 hlen hsz h8
      go_wp2_with fail
      go_roundw
      case rel => exact ⟨k + 1, by omega, by go_num, HO2, HB1⟩
      case measure => simp [intOf]; omega
    · obtain rfl : k = n := by omega
      go_wp2_with fail
      go_ret
      exact ⟨_, rfl, HO.out, HBk.out⟩
theorem list_put (C : List Value) (n k : Nat) (P : List Value) (b : Value) (hn : n + k < C.length) (hP : P.length = k) :
    (C.take n ++ P ++ C.drop (n + k)).take (n + k) ++ [b] ++ (C.take n ++ P ++ C.drop (n + k)).drop (n + k + 1) = C.take n ++ (P ++ [b]) ++ C.drop (n + (k + 1)) := by
  have h1 : (C.take n ++ P).length = n + k := by rw [List.length_append, List.length_take, hP]; omega
  rw [List.take_append_of_le_length (by omega), List.take_of_length_le (by omega), List.drop_append, h1, List.drop_of_length_le (by omega), List.nil_append, show n + k + 1 - (n + k) = 1 by omega, List.drop_drop, show n + k + 1 = n + (k + 1) by omega]
  simp only [List.append_assoc]
set_option maxRecDepth 100000 in
set_option maxHeartbeats 1000000 in
theorem putNumber_room (w : World) (g n cap : Nat) (cur : Array Value) (x : Int) (m : Nat) (hg : w.heap[g]? = some (.cells cur 5 (0, 0))) (hroom : n + m ≤ cap) (hcur : cur.size = cap) (hm : m ≤ 8) (hcap : cap ≤ maxLen) :
    Calls Tryd.prog 23 #[.slice (some ⟨g, 0, none⟩) n cap, .int .i64 x, .int .i64 (m : Int)] w fun e w' =>
      (∃ v', e = .returned v') ∧ w'.heap[g]? = some (.cells (cur.toList.take n ++ u8s (Bson.putB x m) ++ cur.toList.drop (n + m)).toArray 5 (0, 0)) ∧ w.grownBy w' (some g) := by
  obtain ⟨i0, hi, -, hz1, -⟩ := info_parts infoU8
  have hgl : g < w.heap.size := (Array.getElem?_eq_some_iff.1 hg).1
  have HG := Lib.hid hg
  have HL := Lib.hid (show cur.toList.length = cap by simpa using hcur)
  have hcap2 : cap ≤ 9223372036854775807 := by unfold maxLen at hcap; omega
  clear hg hcap hcur
  go_enter Tryd.func23, Tryd.ntmps23
  go_wp2_with fail
  go_loopw [0, 9] (fun v i wr => ∃ k : Nat, k ≤ m ∧ i = .int .i64 k ∧ v = .slice (some ⟨g, 0, none⟩) (n + k) cap ∧ Hid (wr.heap[g]? = some (.cells (cur.toList.take n ++ u8s (Bson.putB x k) ++ cur.toList.drop (n + k)).toArray 5 (0, 0))) ∧ Hid (w.grownBy wr (some g))) (fun _ i _ => m - (intOf i).toNat)
  case atStart => exact ⟨0, by omega, rfl, rfl, (by rw [HG.out]; simp [Bson.putB, u8s] : w.heap[g]? = _), World.grownBy.refl w _⟩
  case round =>
    obtain ⟨k, hk, rfl, rfl, HO, HBk⟩ := hrel
    by_cases hlt : k < m
    · have h8 : IntKind.i64.wrap (8 * (k : Int)) = 8 * (k : Int) := IntWalk.i64_in _ (by omega)
      have hul : (u8s (Bson.putB x k)).length = k := by simp [u8s, Bson.putB_length]
      have hCl : (cur.toList.take n ++ u8s (Bson.putB x k) ++ cur.toList.drop (n + k)).length = cap := by
        rw [List.length_append, List.length_append, List.length_take, List.length_drop, hul, HL.out]; omega
      have HP := Lib.hid (list_put cur.toList n k (u8s (Bson.putB x k)) (.int .u8 (x / 2 ^ (8 * k) % 256)) (by rw [HL.out]; omega) hul)
      generalize hC : (cur.toList.take n ++ u8s (Bson.putB x k) ++ cur.toList.drop (n + k)) = C at *
      clear hC
      have hgr : g < wr.heap.size := (Array.getElem?_eq_some_iff.1 HO.out).1
      have hgA : (wr.alloc (.cells #[.int .u8 (x / 2 ^ (8 * k) % 256)] 5)).heap[g]? = some (.cells C.toArray 5 (0, 0)) := (((Below.refl _ wr).alloc (Nat.le_refl _) _).block g hgr).trans HO.out
      obtain ⟨new, hnew⟩ : ∃ r, r = (C.toArray.toList.take (n + k) ++ [Value.int .u8 (x / 2 ^ (8 * k) % 256)] ++ C.toArray.toList.drop (n + k + [Value.int .u8 (x / 2 ^ (8 * k) % 256)].length)).toArray := ⟨_, rfl⟩
      have HNEW := Lib.hid hnew
      clear hnew
      go_wp2_with (at_builtin; refine wpList_append_room rfl _ _ 22 rfl 5 i0 Tryd.underlying22 hi hz1 g (n + k) cap C.toArray rfl hgA ⟨wr.heap.size, 0, none⟩ 1 1 [.int .u8 (x / 2 ^ (8 * k) % 256)] rfl rfl ?c1 ?c2 ?c3 ?c4 new HNEW.out ?_)
      case c2 => rfl
      case c3 => omega
      case c4 => first | omega | (rw [hCl]; omega) | (simp [hCl]; omega)
      have HB2 : Hid (w.grownBy ((wr.alloc (.cells #[.int .u8 (x / 2 ^ (8 * k) % 256)] 5)).setRow g new) (some g)) :=
        ⟨HBk.out.os, HBk.out.tape, HBk.out.output, Nat.le_trans HBk.out.size (by simp), fun j hj hne => (setRow_other _ g j _ (fun e => hne (by rw [e]))).trans ((((Below.refl _ wr).alloc (Nat.le_refl _) _).block j (Nat.lt_of_lt_of_le hj HBk.out.size)).trans (HBk.out.block j hj hne))⟩
      have HO3 : Hid (((wr.alloc (.cells #[.int .u8 (x / 2 ^ (8 * k) % 256)] 5)).setRow g new).heap[g]? = some (.cells (cur.toList.take n ++ u8s (Bson.putB x (k + 1)) ++ cur.toList.drop (n + (k + 1))).toArray 5 (0, 0))) := by
        show _ = _
        have h2 := HP.out
        rw [setRow_heap _ g _ new _ _ hgA, HNEW.out, Bson.putB_succ, ← u8s_snoc]
        have e1 : u8s [Bson.byteAt x k] = [.int .u8 (x / 2 ^ (8 * k) % 256)] := by rw [byteV]; rfl
        rw [e1, ← h2]
        rfl
      clear HP hgA hCl hul h8 HNEW
      go_roundw
      case rel => exact ⟨k + 1, by omega, by go_num, rfl, HO3, HB2⟩
      case measure => simp [intOf]; omega
    · obtain rfl : k = m := by omega
      go_wp2_with fail
      go_ret
      exact ⟨⟨_, rfl⟩, HO.out, HBk.out⟩
end Go.Proofs.YtdihelpimpkfoaaDoor
end
section
namespace Go.Proofs.YtdihelpimpkfoaaDoor
open Go.RowKit
open Seal
open Bson (Val Res)
theorem number_any (w : World) (gr : Nat) (ba : Option Addr) (bc : Nat) (b : List Nat) (k n : Nat) (kd : Int) (hn : n = 1 ∨ n = 4 ∨ n = 8) (hk0 : -9223372036854775808 ≤ kd) (hk1 : kd ≤ 9223372036854775807) (hR : Rdr w gr ba bc b k) :
    Reads_ zeroV (ValV w.heap.size) 67 #[.pointer (some ⟨gr, 0, none⟩), .int .i64 kd, .int .i64 (n : Int)] w gr ba bc b (Bson.number kd n (b.drop k)) := by
  refine ⟨fun e he => ?_, fun x r hx => ?_⟩
  · rcases Bson.Res.bind_err he with h | ⟨_, _, _, h⟩
    · obtain ⟨rfl, hl⟩ := btake_no hR.le h
      exact number_no w gr ba bc b k n kd (by omega) hR hl
    · cases h
  · obtain ⟨y, r', hy, h⟩ := Bson.Res.bind_ok hx
    obtain ⟨h1, rfl, rfl, _⟩ := btake_yes hR.le hy
    injection h with h2 h3
    subst h2; subst h3
    exact number_yes w gr ba bc b k n kd hn hk0 hk1 hR h1
def rawRes (kd : Int) (n : Nat) (l : List Nat) : Res Val := (Bson.take n l).bind fun h r => .ok (.mk kd 0 Bson.none_ h [] []) r
theorem raw_any (w : World) (gr : Nat) (ba : Option Addr) (bc : Nat) (b : List Nat) (k n : Nat) (kd : Int) (hn : n ≤ 2147483647) (hk0 : -9223372036854775808 ≤ kd) (hk1 : kd ≤ 9223372036854775807) (hR : Rdr w gr ba bc b k) :
    Reads_ zeroV (ValV w.heap.size) 66 #[.pointer (some ⟨gr, 0, none⟩), .int .i64 kd, .int .i64 (n : Int)] w gr ba bc b (rawRes kd n (b.drop k)) := by
  refine ⟨fun e he => ?_, fun x r hx => ?_⟩
  · rcases Bson.Res.bind_err he with h | ⟨_, _, _, h⟩
    · obtain ⟨rfl, hl⟩ := btake_no hR.le h
      exact raw_no w gr ba bc b k n kd hn hR hl
    · cases h
  · obtain ⟨y, r', hy, h⟩ := Bson.Res.bind_ok hx
    obtain ⟨h1, rfl, rfl, _⟩ := btake_yes hR.le hy
    injection h with h2 h3
    subst h2; subst h3
    exact raw_yes w gr ba bc b k n kd hk0 hk1 hR h1
set_option maxRecDepth 100000 in
set_option maxHeartbeats 1000000 in
theorem float_any (w : World) (gr : Nat) (ba : Option Addr) (bc : Nat) (b : List Nat) (k n : Nat) (hn : n ≤ 2147483647) (hR : Rdr w gr ba bc b k) :
    Reads_ zeroV (ValV w.heap.size) 65 #[.pointer (some ⟨gr, 0, none⟩), .int .i64 (n : Int)] w gr ba bc b (Bson.float n (b.drop k)) := by
  have hR0 := hR.alloc (.cells zeroCs 28 (0, 0))
  have hlt := hR.lt
  refine ⟨fun e he => ?_, fun x r hx => ?_⟩
  · rcases Bson.Res.bind_err he with h | ⟨y, r', hy, h⟩
    · obtain ⟨rfl, hl⟩ := btake_no hR.le h
      have hT := Lib.hid (take_no _ gr ba bc b k n hR0 hn hl)
      clear h hR hR0 he hl
      go_enter Tryd.func65, Tryd.ntmps65
      go_wp2_with fail
      refine hT.out.mono ?_
      rintro e w' ⟨rfl, q, rfl⟩
      go_wp2_with fail
      exact bodyPost_ret (v := .tuple #[zeroV, .int .i64 2]) (by simp [results, Tryd.results65, go_sem, zeroV]) rfl (fin_err (grown_trans (grown_box _) (grown_drewN _ q gr)) _ _ _ _ _ _ rfl)
    · injection h with h; subst h
      obtain ⟨h1, _, _, _⟩ := btake_yes hR.le hy
      have hT := Lib.hid (take_yes _ gr ba bc b k n hR0 h1)
      clear hR hR0 he hy h1
      go_enter Tryd.func65, Tryd.ntmps65
      go_wp2_with fail
      refine hT.out.mono ?_
      rintro e w' ⟨a, c, rfl, hc0, hc1, hs, hR', hg⟩
      have HF := Lib.hid ((Fresh.new w).grown hg hlt)
      have HG := Lib.hid (grown_trans (grown_box _) hg)
      clear hs hR' hg
      obtain ⟨d0, f0⟩ := HF.out.cells 0 _ rfl
      obtain ⟨d1, f1⟩ := HF.out.cells 1 _ rfl
      obtain ⟨d2, f2⟩ := HF.out.cells 2 _ rfl
      obtain ⟨d3, f3⟩ := HF.out.cells 3 _ rfl
      obtain ⟨d4, f4⟩ := HF.out.cells 4 _ rfl
      obtain ⟨d5, f5⟩ := HF.out.cells 5 _ rfl
      go_wp2_with fail
      exact bodyPost_ret (v := .tuple #[zeroV, .int .i64 8]) (by simp [results, Tryd.results65, go_sem, zeroV, *]) rfl (fin_err HG.out _ _ _ _ _ _ rfl)
  · obtain ⟨y, r', hy, h⟩ := Bson.Res.bind_ok hx
    cases h
set_option maxRecDepth 100000 in
set_option maxHeartbeats 1000000 in
theorem id_any (w : World) (gr : Nat) (ba : Option Addr) (bc : Nat) (b : List Nat) (k : Nat) (dp : Int) (hR : Rdr w gr ba bc b k) :
    Reads_ zeroV (ValV w.heap.size) 52 #[.pointer (some ⟨gr, 0, none⟩), .int .i64 dp] w gr ba bc b (Bson.ident (b.drop k)) := by
  have hR0 := hR.alloc (.cells zeroCs 28 (0, 0))
  have hlt := hR.lt
  have H := raw_any _ gr ba bc b k 12 9 (by decide) (by decide) (by decide) hR0
  rw [show (w.alloc (.cells zeroCs 28 (0, 0))).heap.size = w.heap.size + 1 by simp] at H
  clear hR hR0
  refine ⟨fun e he => ?_, fun x r hx => ?_⟩
  · have hT := Lib.hid (H.err e he)
    clear H he
    go_enter Tryd.func52, Tryd.ntmps52
    go_wp2_with fail
    refine hT.out.mono ?_
    rintro e' w' ⟨rfl, hg⟩
    have HF := Lib.hid ((Fresh.new w).grown hg hlt)
    have HG := Lib.hid (grown_trans (grown_box _) hg)
    clear hg
    obtain ⟨d0, f0⟩ := HF.out.cells 0 _ rfl
    obtain ⟨d1, f1⟩ := HF.out.cells 1 _ rfl
    obtain ⟨d2, f2⟩ := HF.out.cells 2 _ rfl
    obtain ⟨d3, f3⟩ := HF.out.cells 3 _ rfl
    obtain ⟨d4, f4⟩ := HF.out.cells 4 _ rfl
    obtain ⟨d5, f5⟩ := HF.out.cells 5 _ rfl
    unfold zeroV
    go_wp2_with fail
    exact bodyPost_ret (v := .tuple #[zeroV, .int .i64 (e : Int)]) (by simp [results, Tryd.results52, go_sem, zeroV, *]) rfl (fin_err HG.out _ _ _ _ _ _ rfl)
  · have hT := Lib.hid (H.ok x r hx)
    clear H hx
    go_enter Tryd.func52, Tryd.ntmps52
    go_wp2_with fail
    refine hT.out.mono ?_
    rintro e' w' ⟨v, k', rfl, hV, hr, hR', hg⟩
    have HF := Lib.hid ((Fresh.new w).grown hg hlt)
    have HG := Lib.hid (grown_trans (grown_box _) hg)
    have HR' := Lib.hid hR'
    have HRR := Lib.hid hr
    obtain ⟨q1, q2, q3, a1, n1, c1, a2, n2, c2, a3, n3, c3, rfl, hS⟩ := ValV.stored hV
    have HS := Lib.hid hS
    clear hg hV hr hR' hS
    obtain ⟨d0, f0⟩ := HF.out.cells 0 _ rfl
    obtain ⟨d1, f1⟩ := HF.out.cells 1 _ rfl
    obtain ⟨d2, f2⟩ := HF.out.cells 2 _ rfl
    obtain ⟨d3, f3⟩ := HF.out.cells 3 _ rfl
    obtain ⟨d4, f4⟩ := HF.out.cells 4 _ rfl
    obtain ⟨d5, f5⟩ := HF.out.cells 5 _ rfl
    go_wp2_with fail
    exact bodyPost_ret (v := .tuple #[.agg #[.int .i64 q1, .int .i64 q2, .string q3, .slice a1 n1 c1, .slice a2 n2 c2, .slice a3 n3 c3], .int .i64 0]) (by simp [results, Tryd.results52, go_sem, *]) rfl (fin_ok hlt HF.out HR'.out HG.out _ _ _ _ _ _ (HS.out _ _ _ _ _ _) HRR.out)
set_option maxRecDepth 100000 in
set_option maxHeartbeats 1000000 in
theorem date_any (w : World) (gr : Nat) (ba : Option Addr) (bc : Nat) (b : List Nat) (k : Nat) (dp : Int) (hR : Rdr w gr ba bc b k) :
    Reads_ zeroV (ValV w.heap.size) 54 #[.pointer (some ⟨gr, 0, none⟩), .int .i64 dp] w gr ba bc b (Bson.number 11 8 (b.drop k)) := by
  have hR0 := hR.alloc (.cells zeroCs 28 (0, 0))
  have hlt := hR.lt
  have H := number_any _ gr ba bc b k 8 11 (by decide) (by decide) (by decide) hR0
  rw [show (w.alloc (.cells zeroCs 28 (0, 0))).heap.size = w.heap.size + 1 by simp] at H
  clear hR hR0
  refine ⟨fun e he => ?_, fun x r hx => ?_⟩
  · have hT := Lib.hid (H.err e he)
    clear H he
    go_enter Tryd.func54, Tryd.ntmps54
    go_wp2_with fail
    refine hT.out.mono ?_
    rintro e' w' ⟨rfl, hg⟩
    have HF := Lib.hid ((Fresh.new w).grown hg hlt)
    have HG := Lib.hid (grown_trans (grown_box _) hg)
    clear hg
    obtain ⟨d0, f0⟩ := HF.out.cells 0 _ rfl
    obtain ⟨d1, f1⟩ := HF.out.cells 1 _ rfl
    obtain ⟨d2, f2⟩ := HF.out.cells 2 _ rfl
    obtain ⟨d3, f3⟩ := HF.out.cells 3 _ rfl
    obtain ⟨d4, f4⟩ := HF.out.cells 4 _ rfl
    obtain ⟨d5, f5⟩ := HF.out.cells 5 _ rfl
    unfold zeroV
    go_wp2_with fail
    exact bodyPost_ret (v := .tuple #[zeroV, .int .i64 (e : Int)]) (by simp [results, Tryd.results54, go_sem, zeroV, *]) rfl (fin_err HG.out _ _ _ _ _ _ rfl)
  · have hT := Lib.hid (H.ok x r hx)
    clear H hx
    go_enter Tryd.func54, Tryd.ntmps54
    go_wp2_with fail
    refine hT.out.mono ?_
    rintro e' w' ⟨v, k', rfl, hV, hr, hR', hg⟩
    have HF := Lib.hid ((Fresh.new w).grown hg hlt)
    have HG := Lib.hid (grown_trans (grown_box _) hg)
    have HR' := Lib.hid hR'
    have HRR := Lib.hid hr
    obtain ⟨q1, q2, q3, a1, n1, c1, a2, n2, c2, a3, n3, c3, rfl, hS⟩ := ValV.stored hV
    have HS := Lib.hid hS
    clear hg hV hr hR' hS
    obtain ⟨d0, f0⟩ := HF.out.cells 0 _ rfl
    obtain ⟨d1, f1⟩ := HF.out.cells 1 _ rfl
    obtain ⟨d2, f2⟩ := HF.out.cells 2 _ rfl
    obtain ⟨d3, f3⟩ := HF.out.cells 3 _ rfl
    obtain ⟨d4, f4⟩ := HF.out.cells 4 _ rfl
    obtain ⟨d5, f5⟩ := HF.out.cells 5 _ rfl
    go_wp2_with fail
    exact bodyPost_ret (v := .tuple #[.agg #[.int .i64 q1, .int .i64 q2, .string q3, .slice a1 n1 c1, .slice a2 n2 c2, .slice a3 n3 c3], .int .i64 0]) (by simp [results, Tryd.results54, go_sem, *]) rfl (fin_ok hlt HF.out HR'.out HG.out _ _ _ _ _ _ (HS.out _ _ _ _ _ _) HRR.out)
set_option maxRecDepth 100000 in
set_option maxHeartbeats 1000000 in
theorem int32_any (w : World) (gr : Nat) (ba : Option Addr) (bc : Nat) (b : List Nat) (k : Nat) (dp : Int) (hR : Rdr w gr ba bc b k) :
    Reads_ zeroV (ValV w.heap.size) 56 #[.pointer (some ⟨gr, 0, none⟩), .int .i64 dp] w gr ba bc b (Bson.number 3 4 (b.drop k)) := by
  have hR0 := hR.alloc (.cells zeroCs 28 (0, 0))
  have hlt := hR.lt
  have H := number_any _ gr ba bc b k 4 3 (by decide) (by decide) (by decide) hR0
  rw [show (w.alloc (.cells zeroCs 28 (0, 0))).heap.size = w.heap.size + 1 by simp] at H
  clear hR hR0
  refine ⟨fun e he => ?_, fun x r hx => ?_⟩
  · have hT := Lib.hid (H.err e he)
    clear H he
    go_enter Tryd.func56, Tryd.ntmps56
    go_wp2_with fail
    refine hT.out.mono ?_
    rintro e' w' ⟨rfl, hg⟩
    have HF := Lib.hid ((Fresh.new w).grown hg hlt)
    have HG := Lib.hid (grown_trans (grown_box _) hg)
    clear hg
    obtain ⟨d0, f0⟩ := HF.out.cells 0 _ rfl
    obtain ⟨d1, f1⟩ := HF.out.cells 1 _ rfl
    obtain ⟨d2, f2⟩ := HF.out.cells 2 _ rfl
    obtain ⟨d3, f3⟩ := HF.out.cells 3 _ rfl
    obtain ⟨d4, f4⟩ := HF.out.cells 4 _ rfl
    obtain ⟨d5, f5⟩ := HF.out.cells 5 _ rfl
    unfold zeroV
    go_wp2_with fail
    exact bodyPost_ret (v := .tuple #[zeroV, .int .i64 (e : Int)]) (by simp [results, Tryd.results56, go_sem, zeroV, *]) rfl (fin_err HG.out _ _ _ _ _ _ rfl)
  · have hT := Lib.hid (H.ok x r hx)
    clear H hx
    go_enter Tryd.func56, Tryd.ntmps56
    go_wp2_with fail
    refine hT.out.mono ?_
    rintro e' w' ⟨v, k', rfl, hV, hr, hR', hg⟩
    have HF := Lib.hid ((Fresh.new w).grown hg hlt)
    have HG := Lib.hid (grown_trans (grown_box _) hg)
    have HR' := Lib.hid hR'
    have HRR := Lib.hid hr
    obtain ⟨q1, q2, q3, a1, n1, c1, a2, n2, c2, a3, n3, c3, rfl, hS⟩ := ValV.stored hV
    have HS := Lib.hid hS
    clear hg hV hr hR' hS
    obtain ⟨d0, f0⟩ := HF.out.cells 0 _ rfl
    obtain ⟨d1, f1⟩ := HF.out.cells 1 _ rfl
    obtain ⟨d2, f2⟩ := HF.out.cells 2 _ rfl
    obtain ⟨d3, f3⟩ := HF.out.cells 3 _ rfl
    obtain ⟨d4, f4⟩ := HF.out.cells 4 _ rfl
    obtain ⟨d5, f5⟩ := HF.out.cells 5 _ rfl
    go_wp2_with fail
    exact bodyPost_ret (v := .tuple #[.agg #[.int .i64 q1, .int .i64 q2, .string q3, .slice a1 n1 c1, .slice a2 n2 c2, .slice a3 n3 c3], .int .i64 0]) (by simp [results, Tryd.results56, go_sem, *]) rfl (fin_ok hlt HF.out HR'.out HG.out _ _ _ _ _ _ (HS.out _ _ _ _ _ _) HRR.out)
set_option maxRecDepth 100000 in
set_option maxHeartbeats 1000000 in
theorem int64_any (w : World) (gr : Nat) (ba : Option Addr) (bc : Nat) (b : List Nat) (k : Nat) (dp : Int) (hR : Rdr w gr ba bc b k) :
    Reads_ zeroV (ValV w.heap.size) 57 #[.pointer (some ⟨gr, 0, none⟩), .int .i64 dp] w gr ba bc b (Bson.number 4 8 (b.drop k)) := by
  have hR0 := hR.alloc (.cells zeroCs 28 (0, 0))
  have hlt := hR.lt
  have H := number_any _ gr ba bc b k 8 4 (by decide) (by decide) (by decide) hR0
  rw [show (w.alloc (.cells zeroCs 28 (0, 0))).heap.size = w.heap.size + 1 by simp] at H
  clear hR hR0
  refine ⟨fun e he => ?_, fun x r hx => ?_⟩
  · have hT := Lib.hid (H.err e he)
    clear H he
    go_enter Tryd.func57, Tryd.ntmps57
    go_wp2_with fail
    refine hT.out.mono ?_
    rintro e' w' ⟨rfl, hg⟩
    have HF := Lib.hid ((Fresh.new w).grown hg hlt)
    have HG := Lib.hid (grown_trans (grown_box _) hg)
    clear hg
    obtain ⟨d0, f0⟩ := HF.out.cells 0 _ rfl
    obtain ⟨d1, f1⟩ := HF.out.cells 1 _ rfl
    obtain ⟨d2, f2⟩ := HF.out.cells 2 _ rfl
    obtain ⟨d3, f3⟩ := HF.out.cells 3 _ rfl
    obtain ⟨d4, f4⟩ := HF.out.cells 4 _ rfl
    obtain ⟨d5, f5⟩ := HF.out.cells 5 _ rfl
    unfold zeroV
    go_wp2_with fail
    exact bodyPost_ret (v := .tuple #[zeroV, .int .i64 (e : Int)]) (by simp [results, Tryd.results57, go_sem, zeroV, *]) rfl (fin_err HG.out _ _ _ _ _ _ rfl)
  · have hT := Lib.hid (H.ok x r hx)
    clear H hx
    go_enter Tryd.func57, Tryd.ntmps57
    go_wp2_with fail
    refine hT.out.mono ?_
    rintro e' w' ⟨v, k', rfl, hV, hr, hR', hg⟩
    have HF := Lib.hid ((Fresh.new w).grown hg hlt)
    have HG := Lib.hid (grown_trans (grown_box _) hg)
    have HR' := Lib.hid hR'
    have HRR := Lib.hid hr
    obtain ⟨q1, q2, q3, a1, n1, c1, a2, n2, c2, a3, n3, c3, rfl, hS⟩ := ValV.stored hV
    have HS := Lib.hid hS
    clear hg hV hr hR' hS
    obtain ⟨d0, f0⟩ := HF.out.cells 0 _ rfl
    obtain ⟨d1, f1⟩ := HF.out.cells 1 _ rfl
    obtain ⟨d2, f2⟩ := HF.out.cells 2 _ rfl
    obtain ⟨d3, f3⟩ := HF.out.cells 3 _ rfl
    obtain ⟨d4, f4⟩ := HF.out.cells 4 _ rfl
    obtain ⟨d5, f5⟩ := HF.out.cells 5 _ rfl
    go_wp2_with fail
    exact bodyPost_ret (v := .tuple #[.agg #[.int .i64 q1, .int .i64 q2, .string q3, .slice a1 n1 c1, .slice a2 n2 c2, .slice a3 n3 c3], .int .i64 0]) (by simp [results, Tryd.results57, go_sem, *]) rfl (fin_ok hlt HF.out HR'.out HG.out _ _ _ _ _ _ (HS.out _ _ _ _ _ _) HRR.out)
set_option maxRecDepth 100000 in
set_option maxHeartbeats 1000000 in
theorem double_any (w : World) (gr : Nat) (ba : Option Addr) (bc : Nat) (b : List Nat) (k : Nat) (dp : Int) (hR : Rdr w gr ba bc b k) :
    Reads_ zeroV (ValV w.heap.size) 48 #[.pointer (some ⟨gr, 0, none⟩), .int .i64 dp] w gr ba bc b (Bson.float 8 (b.drop k)) := by
  have hR0 := hR.alloc (.cells zeroCs 28 (0, 0))
  have hlt := hR.lt
  have H := float_any _ gr ba bc b k 8 (by decide) hR0
  rw [show (w.alloc (.cells zeroCs 28 (0, 0))).heap.size = w.heap.size + 1 by simp] at H
  clear hR hR0
  refine ⟨fun e he => ?_, fun x r hx => ?_⟩
  · have hT := Lib.hid (H.err e he)
    clear H he
    go_enter Tryd.func48, Tryd.ntmps48
    go_wp2_with fail
    refine hT.out.mono ?_
    rintro e' w' ⟨rfl, hg⟩
    have HF := Lib.hid ((Fresh.new w).grown hg hlt)
    have HG := Lib.hid (grown_trans (grown_box _) hg)
    clear hg
    obtain ⟨d0, f0⟩ := HF.out.cells 0 _ rfl
    obtain ⟨d1, f1⟩ := HF.out.cells 1 _ rfl
    obtain ⟨d2, f2⟩ := HF.out.cells 2 _ rfl
    obtain ⟨d3, f3⟩ := HF.out.cells 3 _ rfl
    obtain ⟨d4, f4⟩ := HF.out.cells 4 _ rfl
    obtain ⟨d5, f5⟩ := HF.out.cells 5 _ rfl
    unfold zeroV
    go_wp2_with fail
    exact bodyPost_ret (v := .tuple #[zeroV, .int .i64 (e : Int)]) (by simp [results, Tryd.results48, go_sem, zeroV, *]) rfl (fin_err HG.out _ _ _ _ _ _ rfl)
  · have hT := Lib.hid (H.ok x r hx)
    clear H hx
    go_enter Tryd.func48, Tryd.ntmps48
    go_wp2_with fail
    refine hT.out.mono ?_
    rintro e' w' ⟨v, k', rfl, hV, hr, hR', hg⟩
    have HF := Lib.hid ((Fresh.new w).grown hg hlt)
    have HG := Lib.hid (grown_trans (grown_box _) hg)
    have HR' := Lib.hid hR'
    have HRR := Lib.hid hr
    obtain ⟨q1, q2, q3, a1, n1, c1, a2, n2, c2, a3, n3, c3, rfl, hS⟩ := ValV.stored hV
    have HS := Lib.hid hS
    clear hg hV hr hR' hS
    obtain ⟨d0, f0⟩ := HF.out.cells 0 _ rfl
    obtain ⟨d1, f1⟩ := HF.out.cells 1 _ rfl
    obtain ⟨d2, f2⟩ := HF.out.cells 2 _ rfl
    obtain ⟨d3, f3⟩ := HF.out.cells 3 _ rfl
    obtain ⟨d4, f4⟩ := HF.out.cells 4 _ rfl
    obtain ⟨d5, f5⟩ := HF.out.cells 5 _ rfl
    go_wp2_with fail
    exact bodyPost_ret (v := .tuple #[.agg #[.int .i64 q1, .int .i64 q2, .string q3, .slice a1 n1 c1, .slice a2 n2 c2, .slice a3 n3 c3], .int .i64 0]) (by simp [results, Tryd.results48, go_sem, *]) rfl (fin_ok hlt HF.out HR'.out HG.out _ _ _ _ _ _ (HS.out _ _ _ _ _ _) HRR.out)
set_option maxRecDepth 100000 in
set_option maxHeartbeats 1000000 in
theorem decimal_any (w : World) (gr : Nat) (ba : Option Addr) (bc : Nat) (b : List Nat) (k : Nat) (dp : Int) (hR : Rdr w gr ba bc b k) :
    Reads_ zeroV (ValV w.heap.size) 58 #[.pointer (some ⟨gr, 0, none⟩), .int .i64 dp] w gr ba bc b (Bson.float 16 (b.drop k)) := by
  have hR0 := hR.alloc (.cells zeroCs 28 (0, 0))
  have hlt := hR.lt
  have H := float_any _ gr ba bc b k 16 (by decide) hR0
  rw [show (w.alloc (.cells zeroCs 28 (0, 0))).heap.size = w.heap.size + 1 by simp] at H
  clear hR hR0
  refine ⟨fun e he => ?_, fun x r hx => ?_⟩
  · have hT := Lib.hid (H.err e he)
    clear H he
    go_enter Tryd.func58, Tryd.ntmps58
    go_wp2_with fail
    refine hT.out.mono ?_
    rintro e' w' ⟨rfl, hg⟩
    have HF := Lib.hid ((Fresh.new w).grown hg hlt)
    have HG := Lib.hid (grown_trans (grown_box _) hg)
    clear hg
    obtain ⟨d0, f0⟩ := HF.out.cells 0 _ rfl
    obtain ⟨d1, f1⟩ := HF.out.cells 1 _ rfl
    obtain ⟨d2, f2⟩ := HF.out.cells 2 _ rfl
    obtain ⟨d3, f3⟩ := HF.out.cells 3 _ rfl
    obtain ⟨d4, f4⟩ := HF.out.cells 4 _ rfl
    obtain ⟨d5, f5⟩ := HF.out.cells 5 _ rfl
    unfold zeroV
    go_wp2_with fail
    exact bodyPost_ret (v := .tuple #[zeroV, .int .i64 (e : Int)]) (by simp [results, Tryd.results58, go_sem, zeroV, *]) rfl (fin_err HG.out _ _ _ _ _ _ rfl)
  · have hT := Lib.hid (H.ok x r hx)
    clear H hx
    go_enter Tryd.func58, Tryd.ntmps58
    go_wp2_with fail
    refine hT.out.mono ?_
    rintro e' w' ⟨v, k', rfl, hV, hr, hR', hg⟩
    have HF := Lib.hid ((Fresh.new w).grown hg hlt)
    have HG := Lib.hid (grown_trans (grown_box _) hg)
    have HR' := Lib.hid hR'
    have HRR := Lib.hid hr
    obtain ⟨q1, q2, q3, a1, n1, c1, a2, n2, c2, a3, n3, c3, rfl, hS⟩ := ValV.stored hV
    have HS := Lib.hid hS
    clear hg hV hr hR' hS
    obtain ⟨d0, f0⟩ := HF.out.cells 0 _ rfl
    obtain ⟨d1, f1⟩ := HF.out.cells 1 _ rfl
    obtain ⟨d2, f2⟩ := HF.out.cells 2 _ rfl
    obtain ⟨d3, f3⟩ := HF.out.cells 3 _ rfl
    obtain ⟨d4, f4⟩ := HF.out.cells 4 _ rfl
    obtain ⟨d5, f5⟩ := HF.out.cells 5 _ rfl
    go_wp2_with fail
    exact bodyPost_ret (v := .tuple #[.agg #[.int .i64 q1, .int .i64 q2, .string q3, .slice a1 n1 c1, .slice a2 n2 c2, .slice a3 n3 c3], .int .i64 0]) (by simp [results, Tryd.results58, go_sem, *]) rfl (fin_ok hlt HF.out HR'.out HG.out _ _ _ _ _ _ (HS.out _ _ _ _ _ _) HRR.out)
set_option maxRecDepth 100000 in
set_option maxHeartbeats 1000000 in
theorem null_any (w : World) (gr : Nat) (ba : Option Addr) (bc : Nat) (b : List Nat) (k : Nat) (dp : Int) (hR : Rdr w gr ba bc b k) :
    Reads_ zeroV (ValV w.heap.size) 55 #[.pointer (some ⟨gr, 0, none⟩), .int .i64 dp] w gr ba bc b (.ok (.mk 2 0 Bson.none_ [] [] []) (b.drop k)) := by
  have HR := Lib.hid hR
  clear hR
  refine ⟨fun e he => (by cases he), fun x r hx => ?_⟩
  injection hx with h1 h2
  subst h1; subst h2
  go_enter Tryd.func55, Tryd.ntmps55
  go_wp2_with fail
  exact bodyPost_ret (v := .tuple #[.agg #[.int .i64 2, .int .i64 0, .string ⟨#[]⟩, .slice none 0 0, .slice none 0 0, .slice none 0 0], .int .i64 0]) (by simp [results, Tryd.results55, go_sem]) rfl ⟨_, k, rfl, vin_flat _ _ 2 0 ⟨#[]⟩ (by decide) (by decide) (by decide) (by decide) (by decide), rfl, HR.out.alloc _, grown_box _⟩
set_option maxRecDepth 100000 in
set_option maxHeartbeats 1000000 in
theorem least_any (w : World) (gr : Nat) (ba : Option Addr) (bc : Nat) (b : List Nat) (k : Nat) (dp : Int) (hR : Rdr w gr ba bc b k) :
    Reads_ zeroV (ValV w.heap.size) 60 #[.pointer (some ⟨gr, 0, none⟩), .int .i64 dp] w gr ba bc b (.ok (.mk 1 0 Bson.none_ [] [] []) (b.drop k)) := by
  have HR := Lib.hid hR
  clear hR
  refine ⟨fun e he => (by cases he), fun x r hx => ?_⟩
  injection hx with h1 h2
  subst h1; subst h2
  go_enter Tryd.func60, Tryd.ntmps60
  go_wp2_with fail
  exact bodyPost_ret (v := .tuple #[.agg #[.int .i64 1, .int .i64 0, .string ⟨#[]⟩, .slice none 0 0, .slice none 0 0, .slice none 0 0], .int .i64 0]) (by simp [results, Tryd.results60, go_sem]) rfl ⟨_, k, rfl, vin_flat _ _ 1 0 ⟨#[]⟩ (by decide) (by decide) (by decide) (by decide) (by decide), rfl, HR.out.alloc _, grown_box _⟩
set_option maxRecDepth 100000 in
set_option maxHeartbeats 1000000 in
theorem greatest_any (w : World) (gr : Nat) (ba : Option Addr) (bc : Nat) (b : List Nat) (k : Nat) (dp : Int) (hR : Rdr w gr ba bc b k) :
    Reads_ zeroV (ValV w.heap.size) 59 #[.pointer (some ⟨gr, 0, none⟩), .int .i64 dp] w gr ba bc b (.ok (.mk 12 0 Bson.none_ [] [] []) (b.drop k)) := by
  have HR := Lib.hid hR
  clear hR
  refine ⟨fun e he => (by cases he), fun x r hx => ?_⟩
  injection hx with h1 h2
  subst h1; subst h2
  go_enter Tryd.func59, Tryd.ntmps59
  go_wp2_with fail
  exact bodyPost_ret (v := .tuple #[.agg #[.int .i64 12, .int .i64 0, .string ⟨#[]⟩, .slice none 0 0, .slice none 0 0, .slice none 0 0], .int .i64 0]) (by simp [results, Tryd.results59, go_sem]) rfl ⟨_, k, rfl, vin_flat _ _ 12 0 ⟨#[]⟩ (by decide) (by decide) (by decide) (by decide) (by decide), rfl, HR.out.alloc _, grown_box _⟩
end Go.Proofs.YtdihelpimpkfoaaDoor
end
