/- THE WALKS OF THE DOCUMENT's OWN Num AND Close. -/
import Derived.Test.YteepbligpfljkaaDoorSealRefOpen
import Derived.OneCell
namespace Go.Proofs.YteepbligpfljkaaDoor
open Go.RowKit
open Seal
theorem owns_below {w w' : World} {B : Nat} {v : Value} {n : Nat} {xs : List Value} (h : w.ownsRow B 5 1 v n xs) (hb : Below w.heap.size w w') : w'.ownsRow B 5 1 v n xs := by
  refine ⟨h.1, ?_⟩
  rcases h.2 with h0 | ⟨g, cap, cur, rfl, hBg, hg, h4⟩
  · exact .inl h0
  · exact .inr ⟨g, cap, cur, rfl, hBg, by rw [hb.block g (Array.getElem?_eq_some_iff.1 hg).1]; exact hg, h4⟩
theorem owns_shape {w : World} {B : Nat} {v : Value} {n : Nat} {xs : List Value} (h : w.ownsRow B 5 1 v n xs) (hn : 0 < n) : ∃ g cap, v = .slice (some ⟨g, 0, none⟩) n cap ∧ B ≤ g ∧ g < w.heap.size ∧ n ≤ cap := by
  rcases h.2 with ⟨_, h0⟩ | ⟨g, cap, cur, rfl, hBg, hg, hc, _⟩
  · omega
  · exact ⟨g, cap, rfl, hBg, (Array.getElem?_eq_some_iff.1 hg).1, hc⟩
theorem one_new (w : World) (x : Value) (t : TypeId) : ∀ (j : Nat) u, [x][j]? = some u → (w.alloc (.cells #[x] t)).cell? ((⟨w.heap.size, 0, none⟩ : Addr).add j) = some u := by
  intro j u hj
  cases j with
  | zero =>
    simp at hj; subst hj
    rw [add_plain, World.cell?_alloc_at _ _ _ _ rfl]; rfl
  | succ j => simp at hj
theorem u8s_append (a b : List Nat) : u8s (a ++ b) = u8s a ++ u8s b := by simp [u8s]
theorem u8s_byte (x k : Nat) : u8s [x / 256 ^ k % 256] = [.int .u8 ((x : Int) / 2 ^ (8 * k) % 256)] := by
  simp only [u8s, u8, List.map_cons, List.map_nil]
  rw [Int.natCast_emod, Int.natCast_ediv, show (256 : Nat) ^ k = 2 ^ (8 * k) by rw [Nat.pow_mul]]; simp
set_option maxHeartbeats 1000000 in
theorem refnum_any (x wd : Nat) (w : World) (hx : x < 9223372036854775808) (hw : wd ≤ 4) :
    Calls Tryd.prog 20 #[.int .i64 x, .int .i64 wd] w fun e w' => ∃ v, e = .returned v ∧ w'.ownsRow w.heap.size 5 1 v wd (u8s (le x wd)) ∧ Below w.heap.size w w' := by
  obtain ⟨i0, hi, hz0, hz1, hz2⟩ := info_parts info5
  go_enter Tryd.func20, Tryd.ntmps20
  go_wp2_with fail
  go_loopw [5, 6] (fun v i wr => ∃ k : Nat, k ≤ wd ∧ i = .int .i64 k ∧ wr.ownsRow w.heap.size 5 1 v k (u8s (le x k)) ∧ Below w.heap.size w wr) (fun _ i _ => wd - (intOf i).toNat)
  case atStart => exact ⟨0, by omega, rfl, World.ownsRow_nil _ _ _ _, Below.refl _ _⟩
  case round =>
    obtain ⟨k, hk, rfl, hown, hBk⟩ := hrel
    have hsz := hBk.size
    by_cases hlt : k < wd
    · go_wp2_with (at_builtin; refine wpList_append_own _ rfl _ _ 22 rfl w.heap.size 5 i0 (.int .u8 0) 1 1 Tryd.underlying22 hi hz0 hz1 hz2 rfl (by decide) _ k _ rfl (hown.alloc _) ⟨wr.heap.size, 0, none⟩ 1 1 [.int .u8 ((x : Int) / 2 ^ (8 * k) % 256)] rfl rfl ?c1 ?c2 ?c4 ?c5 ?c6 ?_)
      case c1 => exact one_new _ _ _
      case c2 => intro u hu; simp at hu; subst hu; rfl
      case c4 => unfold maxLen; omega
      case c5 => omega
      case c6 => simp; omega
      intro v' w1 hown1 hgrow1 _
      have hB1 : Below w.heap.size w w1 := (hBk.alloc hsz _).grown hgrow1 (by simp; omega) (fun j hj => (hown.lt j hj).1)
      have hown2 : w1.ownsRow w.heap.size 5 1 v' (k + 1) (u8s (le x (k + 1))) := by
        rw [le_snoc, u8s_append]
        rw [u8s_byte]
        exact hown1
      have Hown2 := Lib.hid hown2
      have HB1 := Lib.hid hB1
      clear hown1 hgrow1 hown hBk hown2 hB1 hi hz0 hz1 hz2
      go_wp2_with fail
      go_roundw
      case rel => exact ⟨k + 1, by omega, by go_num, Hown2.out, HB1.out⟩
      case measure => simp [intOf]; omega
    · have hk' : k = wd := by omega
      subst hk'
      go_wp2_with fail
      go_ret
      exact ⟨_, rfl, hown, hBk⟩
/-- Nothing appended: the row stays. -/
theorem run_nothing {P : Program} (w : World) (base : Nat) (t ty e : TypeId) (i : TypeInfo) (ht : P.underlying t = some (.slice e)) (hi : P.info? e = some i) (c : Nat)
    (v : Value) (n : Nat) (xs : List Value) (hown : w.ownsRow base e i.size v n xs) : (Builtin.append_ #[t, t] ty #[v, .slice none 0 c]).run P w = .ok v w := by
  obtain ⟨_, ⟨rfl, rfl⟩ | ⟨g, cap, cur, rfl, _, _, hnc, _⟩⟩ := hown
  · simp [Builtin.append_, run_underlying ht, sizeOf, typeInfo, hi, Builtin.lenOf, Builtin.firstCells]
  · simp [Builtin.append_, run_underlying ht, sizeOf, typeInfo, hi, Builtin.lenOf, Builtin.firstCells, hnc, storeCells]
theorem step_nothing {P : Program} {w : World} {ops : Array Oper} {rest : List Oper} {o : Oper} {a : Act} {Q : Exit → Act → World → Prop} (hgd : o.guard = none) (s x : Operand) (t : TypeId)
    (ho : o.op = .call { callee := .builtin .append, args := #[s, x], argTypes := #[t, t] }) (base : Nat) (e : TypeId) (i : TypeInfo) (ht : P.underlying t = some (.slice e)) (hi : P.info? e = some i) (c : Nat)
    (v : Value) (n : Nat) (xs : List Value) (hs : a.eval s = v) (hown : w.ownsRow base e i.size v n xs) (hx : a.eval x = .slice none 0 c) (h : wpList P ops Q rest (a.put o.dst v) w) : wpList P ops Q (o :: rest) a w := by
  refine wpList_plain hgd fun K hK => ?_
  have hrun := run_nothing (P := P) w base t o.type e i ht hi c v n xs hown
  unfold Oper.wp
  simp [execOp, ho, resolve, invoke, builtin, hs, hx, hrun, Result.andThen]
  exact hK _ _ h
/-- The page as the document's own Close lays it, from its parts on. -/
theorem body_parts (page next : Nat) (data : List Nat) (k : Nat) (hk : 6 + data.length + k = page - 4) : (le next 4 ++ le data.length 2 ++ data) ++ List.replicate k 0 = body page next data := by
  unfold body
  rw [List.append_assoc, List.append_assoc, show page - 10 - data.length = k by omega]
def lenOfV : Value → Nat
  | .slice _ n _ => n
  | _ => 0
set_option maxHeartbeats 2000000 in
theorem refclose_none (page next cap : Nat) (w : World) (hp : pageOk page = true) (hn : next ≤ 16384)  :
    Calls Tryd.prog 11 #[.int .i64 page, .int .i64 ((next : Int) - 1), .slice none 0 cap] w fun e w' =>
      ∃ b c, e = .returned (.tuple #[.slice b page c, .int .i64 0]) ∧ SliceIs w' b (closeB page next []) ∧ Below w.heap.size w w' := by
  obtain ⟨i0, hi, hz0, hz1, hz2⟩ := info_parts info5
  have hpb := pageOk_bounds hp
  have hpB : pageB (page : Int) = true := by unfold pageB; rw [Int.toNat_natCast, hp]
  have hroom : roomOf page = page - 10 := by unfold roomOf; rw [if_pos hpB]
  have HpB := Lib.hid hpB
  have Hroom := Lib.hid hroom
  clear hpB hroom hp
  go_enter Tryd.func11, Tryd.ntmps11
  go_wp2_with fail
  refine (pagemay_any page _ (by omega) (by omega)).mono ?_
  rintro e w' ⟨rfl, rfl⟩
  rw [HpB.out]
  have g1 : -1 ≤ (next : Int) - 1 := by omega
  have g2 : (next : Int) - 1 < 16384 := by omega
  go_wp2_with fail
  refine (refroom_any page _ (by omega) (by omega)).mono ?_
  rintro e w' ⟨rfl, rfl⟩
  rw [Hroom.out]
  have g3 : (0 : Int) ≤ (page : Int) - 10 := by omega
  go_wp2_with fail
  refine (refnum_any next 4 w (by omega) (by omega)).mono ?_
  rintro e w1 ⟨v1, rfl, hown1, hB1⟩
  obtain ⟨G1, C1, rfl, hg1, hg1', hc1⟩ := owns_shape hown1 (by omega)
  have hown1 : Hid _ := hown1
  go_wp2_with fail
  refine (refnum_any 0 2 w1 (by omega) (by omega)).mono ?_
  rintro e w2 ⟨v2, rfl, hown2, hB2⟩
  obtain ⟨G2, C2, rfl, hg2, hg2', hc2⟩ := owns_shape hown2 (by omega)
  have hs1 := hB1.size
  have hs2 := hB2.size
  have hown1' := owns_below hown1.out hB2
  have hB02 : Below w.heap.size w w2 := hB1.trans (hB2.mono hs1)
  have hsrc : ∀ (j : Nat) u, (u8s (le 0 2))[j]? = some u → w2.cell? ((⟨G2, 0, none⟩ : Addr).add j) = some u := by
    intro j u hj
    rw [add_plain, Nat.zero_add]
    have hjl : j < 2 := by
      have := (List.getElem?_eq_some_iff.1 hj).1
      rwa [length_u8s, length_le] at this
    rw [hown2.cellAt j (by omega)]
    exact hj
  have hown1h := Lib.hid hown1'
  clear hown1 hown1' hown2 hB1 hB2 hs1
  go_wp2_with (at_builtin; refine wpList_append_own _ rfl (.tmp 29) (.tmp 32) 22 rfl w.heap.size 5 i0 (.int .u8 0) 1 1 Tryd.underlying22 hi hz0 hz1 hz2 rfl (by decide) _ 4 _ rfl hown1h.out ⟨G2, 0, none⟩ 2 C2 (u8s (le 0 2)) rfl ?c1 hsrc (one_u8s _) ?c4 ?c5 ?c6 ?_)
  case c1 => rw [length_u8s, length_le]
  case c4 => unfold maxLen; omega
  case c5 => omega
  case c6 => exact hB02.size
  intro v3 w3 hown3 hgrow3 _
  have hB03 : Below w.heap.size w w3 := hB02.grown hgrow3 (by omega) (fun k hk => by simp [Value.ownBlock] at hk; omega)
  obtain ⟨G3, C3, rfl, hg3, hg3', hc3⟩ := owns_shape hown3 (by omega)
  rw [← u8s_append] at hown3
  have hlh : (le next 4 ++ le 0 2).length = 6 := by simp [length_le]
  have Hlh := Lib.hid hlh
  obtain ⟨L3, hL3⟩ : ∃ L3, L3 = le next 4 ++ le 0 2 := ⟨_, rfl⟩
  rw [← hL3] at hown3 Hlh
  have HL3 := Lib.hid hL3
  clear hlh hL3 hgrow3 hown1h hsrc hg1 hg1' hc1 hg2 hg2' hc2 hs2 hB02
  have hown5 := hown3
  have hTl : L3.length = 6 := Hlh.out
  obtain ⟨T, hT⟩ : ∃ T, T = L3 := ⟨_, rfl⟩
  rw [← hT] at hown5 hTl
  have HT : Hid (T = le next 4 ++ le ([] : List Nat).length 2 ++ []) := by
    show T = _
    rw [hT, HL3.out, List.append_nil]; rfl
  have HTl := Lib.hid hTl
  have hb : Oct [] := fun c hc => by cases hc
  have hd : ([] : List Nat).length + 10 ≤ page := by simp; omega
  clear hT hTl
  go_wp2_with (at_builtin; refine step_nothing rfl (.tmp 33) (.tmp 34) 22 rfl w.heap.size 5 i0 Tryd.underlying22 hi cap _ 6 _ rfl (by rw [hz1]; exact hown3) rfl ?_)
  clear hown3
  go_loopw [8] (fun v wr => ∃ (k g c : Nat), v = .slice (some ⟨g, 0, none⟩) (6 + k) c ∧ 6 + k + 4 ≤ page ∧ wr.ownsRow w.heap.size 5 1 v (6 + k) (u8s (T ++ List.replicate k 0)) ∧ Below w.heap.size w wr) (fun v _ => page - lenOfV v)
  case atStart => exact ⟨0, G3, C3, rfl, by omega, by rw [List.replicate_zero, List.append_nil]; exact hown5, hB03⟩
  case round =>
    obtain ⟨k, g, c, rfl, hk, hown, hBk⟩ := hrel
    have hsz := hBk.size
    by_cases hlt : 6 + k + 4 < page
    · have hlt' : ((6 : Nat) : Int) + (k : Int) < (page : Int) - 4 := by omega
      go_wp2_with (at_builtin; refine wpList_append_own _ rfl _ _ 22 rfl w.heap.size 5 i0 (.int .u8 0) 1 1 Tryd.underlying22 hi hz0 hz1 hz2 rfl (by decide) _ (6 + k) _ rfl (hown.alloc _) ⟨wr.heap.size, 0, none⟩ 1 1 [.int .u8 0] rfl rfl ?c1 ?c2 ?c4 ?c5 ?c6 ?_)
      case c1 => exact one_new _ _ _
      case c2 => intro u hu; simp at hu; subst hu; rfl
      case c4 => unfold maxLen; omega
      case c5 => omega
      case c6 => simp; omega
      intro v' w7 hown7 hgrow7 _
      have hB7 : Below w.heap.size w w7 := (hBk.alloc hsz _).grown hgrow7 (by simp; omega) (fun j hj => (hown.lt j hj).1)
      obtain ⟨g7, c7, rfl, _, _, _⟩ := owns_shape hown7 (by omega)
      have hown8 : w7.ownsRow w.heap.size 5 1 (.slice (some ⟨g7, 0, none⟩) (6 + (k + 1)) c7) (6 + (k + 1)) (u8s (T ++ List.replicate (k + 1) 0)) := by
        have e : u8s (T ++ List.replicate (k + 1) 0) = u8s (T ++ List.replicate k 0) ++ [.int .u8 0] := by
          rw [List.replicate_succ', ← List.append_assoc, u8s_append]; rfl
        rw [e]
        exact hown7
      have Hown8 := Lib.hid hown8
      have HB7 := Lib.hid hB7
      clear hown7 hgrow7 hown hBk hown8 hB7 hi hz0 hz1 hz2
      go_wp2_with fail
      go_roundw
      case rel => exact ⟨k + 1, g7, c7, rfl, by omega, Hown8.out, HB7.out⟩
      case measure => simp [lenOfV]; omega
    · have hke : 6 + k + 4 = page := by omega
      have hlt' : (page : Int) - 4 ≤ ((6 : Nat) : Int) + (k : Int) := by omega
      have hbody : T ++ List.replicate k 0 = body page next ([] : List Nat) := by rw [HT.out]; exact body_parts page next ([] : List Nat) k (by first | omega | (simp; omega))
      have hbl : (body page next ([] : List Nat)).length = 6 + k := by rw [length_body page next ([] : List Nat) (by omega)]; omega
      rw [hbody] at hown
      have hbo : Oct (body page next ([] : List Nat)) := oct_body page next ([] : List Nat) hb
      have hsl : SliceIs wr (some ⟨g, 0, none⟩) (body page next ([] : List Nat)) := by
        have h8 := hown
        rw [← hbl] at h8
        obtain ⟨a9, c9, e9, h9, _⟩ := owns_slice h8
        simp only [Value.slice.injEq] at e9
        rw [e9.1]; exact h9
      have hcb : closeB page next ([] : List Nat) = body page next ([] : List Nat) ++ le (crc (body page next ([] : List Nat))) 4 := rfl
      have hcl := crc_lt _ hbo
      have hgl := (hown.lt g rfl).2
      have Hcb := Lib.hid hcb
      have Hbl := Lib.hid hbl
      clear hbody hcb hbl
      go_wp2_with fail
      refine (refsum_any _ _ _ (body page next ([] : List Nat)) _ Hbl.out (by omega) hbo hsl).mono ?_
      rintro e w' ⟨rfl, rfl⟩
      generalize hK : crc (body page next ([] : List Nat)) = K at *
      go_wp2_with fail
      refine (refnum_any K 4 wr (by omega) (by omega)).mono ?_
      rintro e w8 ⟨v8, rfl, hown8, hB8⟩
      obtain ⟨G8, C8, rfl, hg8, hg8', hc8⟩ := owns_shape hown8 (by omega)
      have hB08 : Below w.heap.size w w8 := hBk.trans (hB8.mono hsz)
      have hownb := owns_below hown hB8
      have hsrc8 : ∀ (j : Nat) u, (u8s (le K 4))[j]? = some u → w8.cell? ((⟨G8, 0, none⟩ : Addr).add j) = some u := by
        intro j u hj
        rw [add_plain, Nat.zero_add]
        have hjl : j < 4 := by
          have := (List.getElem?_eq_some_iff.1 hj).1
          rwa [length_u8s, length_le] at this
        rw [hown8.cellAt j (by omega)]
        exact hj
      have Hownb := Lib.hid hownb
      clear hown hown8 hownb hB8 hBk hsl
      go_wp2_with (at_builtin; refine wpList_append_own _ rfl (.tmp 44) (.tmp 48) 22 rfl w.heap.size 5 i0 (.int .u8 0) 1 1 Tryd.underlying22 hi hz0 hz1 hz2 rfl (by decide) _ (6 + k) _ rfl Hownb.out ⟨G8, 0, none⟩ 4 C8 (u8s (le K 4)) rfl ?c1 hsrc8 (one_u8s _) ?c4 ?c5 ?c6 ?_)
      case c1 => rw [length_u8s, length_le]
      case c4 => unfold maxLen; omega
      case c5 => omega
      case c6 => exact hB08.size
      intro v9 w9 hown9 hgrow9 _
      have hB09 : Below w.heap.size w w9 := hB08.grown hgrow9 hB08.size (fun j hj => (Hownb.out.lt j hj).1)
      have hown10 : w9.ownsRow w.heap.size 5 1 v9 (closeB page next ([] : List Nat)).length (u8s (closeB page next ([] : List Nat))) := by
        rw [length_closeB page next ([] : List Nat) (by omega), Hcb.out, u8s_append]
        exact hown9
      obtain ⟨a10, c10, rfl, hS10, _⟩ := owns_slice hown10
      have hcl10 := length_closeB page next ([] : List Nat) (by omega)
      rw [hcl10]
      have Hfin := Lib.hid hS10
      have HB9 := Lib.hid hB09
      clear hown9 hgrow9 hown10 hS10 hB09 hcl10 hsrc8 hK hlt' hke
      go_wp2_with fail
      go_ret2
      exact ⟨a10, c10, rfl, Hfin.out, HB9.out⟩
set_option maxHeartbeats 2000000 in
theorem refclose_some (page next : Nat) (ad : Addr) (cap : Nat) (data : List Nat) (w : World) (hp : pageOk page = true) (hn : next ≤ 16384) (hd : data.length + 10 ≤ page) (hb : Oct data) (hc : SliceIs w (some ad) data) :
    Calls Tryd.prog 11 #[.int .i64 page, .int .i64 ((next : Int) - 1), .slice (some ad) data.length cap] w fun e w' =>
      ∃ b c, e = .returned (.tuple #[.slice b page c, .int .i64 0]) ∧ SliceIs w' b (closeB page next data) ∧ Below w.heap.size w w' := by
  obtain ⟨i0, hi, hz0, hz1, hz2⟩ := info_parts info5
  have hpb := pageOk_bounds hp
  have hpB : pageB (page : Int) = true := by unfold pageB; rw [Int.toNat_natCast, hp]
  have hroom : roomOf page = page - 10 := by unfold roomOf; rw [if_pos hpB]
  have HpB := Lib.hid hpB
  have Hroom := Lib.hid hroom
  clear hpB hroom hp
  go_enter Tryd.func11, Tryd.ntmps11
  go_wp2_with fail
  refine (pagemay_any page _ (by omega) (by omega)).mono ?_
  rintro e w' ⟨rfl, rfl⟩
  rw [HpB.out]
  have g1 : -1 ≤ (next : Int) - 1 := by omega
  have g2 : (next : Int) - 1 < 16384 := by omega
  go_wp2_with fail
  refine (refroom_any page _ (by omega) (by omega)).mono ?_
  rintro e w' ⟨rfl, rfl⟩
  rw [Hroom.out]
  have g3 : (data.length : Int) ≤ (page : Int) - 10 := by omega
  go_wp2_with fail
  refine (refnum_any next 4 w (by omega) (by omega)).mono ?_
  rintro e w1 ⟨v1, rfl, hown1, hB1⟩
  obtain ⟨G1, C1, rfl, hg1, hg1', hc1⟩ := owns_shape hown1 (by omega)
  have hown1 : Hid _ := hown1
  go_wp2_with fail
  refine (refnum_any data.length 2 w1 (by omega) (by omega)).mono ?_
  rintro e w2 ⟨v2, rfl, hown2, hB2⟩
  obtain ⟨G2, C2, rfl, hg2, hg2', hc2⟩ := owns_shape hown2 (by omega)
  have hs1 := hB1.size
  have hs2 := hB2.size
  have hown1' := owns_below hown1.out hB2
  have hB02 : Below w.heap.size w w2 := hB1.trans (hB2.mono hs1)
  have hsrc : ∀ (j : Nat) u, (u8s (le data.length 2))[j]? = some u → w2.cell? ((⟨G2, 0, none⟩ : Addr).add j) = some u := by
    intro j u hj
    rw [add_plain, Nat.zero_add]
    have hjl : j < 2 := by
      have := (List.getElem?_eq_some_iff.1 hj).1
      rwa [length_u8s, length_le] at this
    rw [hown2.cellAt j (by omega)]
    exact hj
  have hown1h := Lib.hid hown1'
  clear hown1 hown1' hown2 hB1 hB2 hs1
  go_wp2_with (at_builtin; refine wpList_append_own _ rfl (.tmp 29) (.tmp 32) 22 rfl w.heap.size 5 i0 (.int .u8 0) 1 1 Tryd.underlying22 hi hz0 hz1 hz2 rfl (by decide) _ 4 _ rfl hown1h.out ⟨G2, 0, none⟩ 2 C2 (u8s (le data.length 2)) rfl ?c1 hsrc (one_u8s _) ?c4 ?c5 ?c6 ?_)
  case c1 => rw [length_u8s, length_le]
  case c4 => unfold maxLen; omega
  case c5 => omega
  case c6 => exact hB02.size
  intro v3 w3 hown3 hgrow3 _
  have hB03 : Below w.heap.size w w3 := hB02.grown hgrow3 (by omega) (fun k hk => by simp [Value.ownBlock] at hk; omega)
  obtain ⟨G3, C3, rfl, hg3, hg3', hc3⟩ := owns_shape hown3 (by omega)
  rw [← u8s_append] at hown3
  have hlh : (le next 4 ++ le data.length 2).length = 6 := by simp [length_le]
  have Hlh := Lib.hid hlh
  obtain ⟨L3, hL3⟩ : ∃ L3, L3 = le next 4 ++ le data.length 2 := ⟨_, rfl⟩
  rw [← hL3] at hown3 Hlh
  have HL3 := Lib.hid hL3
  clear hlh hL3 hgrow3 hown1h hsrc hg1 hg1' hc1 hg2 hg2' hc2 hs2 hB02
  have hsrc : ∀ (j : Nat) u, (u8s data)[j]? = some u → w3.cell? (ad.add j) = some u := by
    intro j u hj
    have hl0 : 0 < data.length := by
      have := (List.getElem?_eq_some_iff.1 hj).1
      rw [length_u8s] at this; omega
    obtain ⟨ad', s1, s2⟩ := (hc.keep hB03).src hl0
    obtain rfl := Option.some.inj s1
    exact s2 j u hj
  go_wp2_with (at_builtin; refine wpList_append_own _ rfl (.tmp 33) (.tmp 34) 22 rfl w.heap.size 5 i0 (.int .u8 0) 1 1 Tryd.underlying22 hi hz0 hz1 hz2 rfl (by decide) _ 6 _ rfl hown3 ad data.length cap (u8s data) rfl ?c1 hsrc (one_u8s _) ?c4 ?c5 ?c6 ?_)
  case c1 => rw [length_u8s]; omega
  case c4 => unfold maxLen; omega
  case c5 => omega
  case c6 => exact hB03.size
  intro v4 w4 hown4 hgrow4 _
  have hB04 : Below w.heap.size w w4 := hB03.grown hgrow4 hB03.size (fun k hk => by simp [Value.ownBlock] at hk; omega)
  obtain ⟨G4, C4, rfl, hg4, hg4', hc4⟩ := owns_shape hown4 (by omega)
  rw [← u8s_append] at hown4
  have hown5 := hown4
  clear hown3 hsrc hgrow4 hB03 hg3 hg3' hc3
  have hTl : (L3 ++ data).length = 6 + data.length := by rw [List.length_append, Hlh.out]
  obtain ⟨T, hT⟩ : ∃ T, T = L3 ++ data := ⟨_, rfl⟩
  rw [← hT] at hown5 hTl
  have HT : Hid (T = le next 4 ++ le data.length 2 ++ data) := by
    show T = _
    rw [hT, HL3.out]
  have HTl := Lib.hid hTl
  clear hT hTl hown4
  go_wp2_with fail
  go_loopw [8] (fun v wr => ∃ (k g c : Nat), v = .slice (some ⟨g, 0, none⟩) ((6 + data.length) + k) c ∧ (6 + data.length) + k + 4 ≤ page ∧ wr.ownsRow w.heap.size 5 1 v ((6 + data.length) + k) (u8s (T ++ List.replicate k 0)) ∧ Below w.heap.size w wr) (fun v _ => page - lenOfV v)
  case atStart => exact ⟨0, G4, C4, rfl, by omega, by rw [List.replicate_zero, List.append_nil]; exact hown5, hB04⟩
  case round =>
    obtain ⟨k, g, c, rfl, hk, hown, hBk⟩ := hrel
    have hsz := hBk.size
    by_cases hlt : (6 + data.length) + k + 4 < page
    · have hlt' : (((6 + data.length) : Nat) : Int) + (k : Int) < (page : Int) - 4 := by omega
      go_wp2_with (at_builtin; refine wpList_append_own _ rfl _ _ 22 rfl w.heap.size 5 i0 (.int .u8 0) 1 1 Tryd.underlying22 hi hz0 hz1 hz2 rfl (by decide) _ ((6 + data.length) + k) _ rfl (hown.alloc _) ⟨wr.heap.size, 0, none⟩ 1 1 [.int .u8 0] rfl rfl ?c1 ?c2 ?c4 ?c5 ?c6 ?_)
      case c1 => exact one_new _ _ _
      case c2 => intro u hu; simp at hu; subst hu; rfl
      case c4 => unfold maxLen; omega
      case c5 => omega
      case c6 => simp; omega
      intro v' w7 hown7 hgrow7 _
      have hB7 : Below w.heap.size w w7 := (hBk.alloc hsz _).grown hgrow7 (by simp; omega) (fun j hj => (hown.lt j hj).1)
      obtain ⟨g7, c7, rfl, _, _, _⟩ := owns_shape hown7 (by omega)
      have hown8 : w7.ownsRow w.heap.size 5 1 (.slice (some ⟨g7, 0, none⟩) ((6 + data.length) + (k + 1)) c7) ((6 + data.length) + (k + 1)) (u8s (T ++ List.replicate (k + 1) 0)) := by
        have e : u8s (T ++ List.replicate (k + 1) 0) = u8s (T ++ List.replicate k 0) ++ [.int .u8 0] := by
          rw [List.replicate_succ', ← List.append_assoc, u8s_append]; rfl
        rw [e]
        exact hown7
      have Hown8 := Lib.hid hown8
      have HB7 := Lib.hid hB7
      clear hown7 hgrow7 hown hBk hown8 hB7 hi hz0 hz1 hz2
      go_wp2_with fail
      go_roundw
      case rel => exact ⟨k + 1, g7, c7, rfl, by omega, Hown8.out, HB7.out⟩
      case measure => simp [lenOfV]; omega
    · have hke : (6 + data.length) + k + 4 = page := by omega
      have hlt' : (page : Int) - 4 ≤ (((6 + data.length) : Nat) : Int) + (k : Int) := by omega
      have hbody : T ++ List.replicate k 0 = body page next data := by rw [HT.out]; exact body_parts page next data k (by first | omega | (simp; omega))
      have hbl : (body page next data).length = (6 + data.length) + k := by rw [length_body page next data (by omega)]; omega
      rw [hbody] at hown
      have hbo : Oct (body page next data) := oct_body page next data hb
      have hsl : SliceIs wr (some ⟨g, 0, none⟩) (body page next data) := by
        have h8 := hown
        rw [← hbl] at h8
        obtain ⟨a9, c9, e9, h9, _⟩ := owns_slice h8
        simp only [Value.slice.injEq] at e9
        rw [e9.1]; exact h9
      have hcb : closeB page next data = body page next data ++ le (crc (body page next data)) 4 := rfl
      have hcl := crc_lt _ hbo
      have hgl := (hown.lt g rfl).2
      have Hcb := Lib.hid hcb
      have Hbl := Lib.hid hbl
      clear hbody hcb hbl
      go_wp2_with fail
      refine (refsum_any _ _ _ (body page next data) _ Hbl.out (by omega) hbo hsl).mono ?_
      rintro e w' ⟨rfl, rfl⟩
      generalize hK : crc (body page next data) = K at *
      go_wp2_with fail
      refine (refnum_any K 4 wr (by omega) (by omega)).mono ?_
      rintro e w8 ⟨v8, rfl, hown8, hB8⟩
      obtain ⟨G8, C8, rfl, hg8, hg8', hc8⟩ := owns_shape hown8 (by omega)
      have hB08 : Below w.heap.size w w8 := hBk.trans (hB8.mono hsz)
      have hownb := owns_below hown hB8
      have hsrc8 : ∀ (j : Nat) u, (u8s (le K 4))[j]? = some u → w8.cell? ((⟨G8, 0, none⟩ : Addr).add j) = some u := by
        intro j u hj
        rw [add_plain, Nat.zero_add]
        have hjl : j < 4 := by
          have := (List.getElem?_eq_some_iff.1 hj).1
          rwa [length_u8s, length_le] at this
        rw [hown8.cellAt j (by omega)]
        exact hj
      have Hownb := Lib.hid hownb
      clear hown hown8 hownb hB8 hBk hsl
      go_wp2_with (at_builtin; refine wpList_append_own _ rfl (.tmp 44) (.tmp 48) 22 rfl w.heap.size 5 i0 (.int .u8 0) 1 1 Tryd.underlying22 hi hz0 hz1 hz2 rfl (by decide) _ ((6 + data.length) + k) _ rfl Hownb.out ⟨G8, 0, none⟩ 4 C8 (u8s (le K 4)) rfl ?c1 hsrc8 (one_u8s _) ?c4 ?c5 ?c6 ?_)
      case c1 => rw [length_u8s, length_le]
      case c4 => unfold maxLen; omega
      case c5 => omega
      case c6 => exact hB08.size
      intro v9 w9 hown9 hgrow9 _
      have hB09 : Below w.heap.size w w9 := hB08.grown hgrow9 hB08.size (fun j hj => (Hownb.out.lt j hj).1)
      have hown10 : w9.ownsRow w.heap.size 5 1 v9 (closeB page next data).length (u8s (closeB page next data)) := by
        rw [length_closeB page next data (by omega), Hcb.out, u8s_append]
        exact hown9
      obtain ⟨a10, c10, rfl, hS10, _⟩ := owns_slice hown10
      have hcl10 := length_closeB page next data (by omega)
      rw [hcl10]
      have Hfin := Lib.hid hS10
      have HB9 := Lib.hid hB09
      clear hown9 hgrow9 hown10 hS10 hB09 hcl10 hsrc8 hK hlt' hke
      go_wp2_with fail
      go_ret2
      exact ⟨a10, c10, rfl, Hfin.out, HB9.out⟩
end Go.Proofs.YteepbligpfljkaaDoor
