/- BsonOf, BsonRaw, BsonPutNum, BsonWrap. -/
import Derived.Test.YtpiookgkkaafeaaDoorMg9
import Derived.Test.YtpiookgkkaafeaaDoorMg0
import Derived.Test.YtpiookgkkaafeaaDoorMg5
set_option maxRecDepth 100000
section
namespace Go.Proofs.YtpiookgkkaafeaaDoor
open Go.RowKit
open Seal
open Bson (Val)
/-- The method that reads a value of a code. -/
def fnOf (c : Nat) : Option Nat :=
  if c = 1 then some 82 else if c = 2 then some 83 else if c = 3 then some 23 else if c = 4 then some 84 else if c = 5 then some 85 else if c = 7 then some 86 else if c = 8 then some 87 else if c = 9 then some 88 else if c = 10 then some 89 else if c = 16 then some 90 else if c = 18 then some 91 else if c = 19 then some 92 else if c = 127 then some 93 else if c = 255 then some 94 else none
/-- A function as a value. -/
def fnV : Option Nat → Value
  | some f => .func (.func f) #[] #[]
  | none => .nilFunc
theorem fnOf_cases {c f : Nat} (h : fnOf c = some f) : (c = 1 ∧ f = 82) ∨ (c = 2 ∧ f = 83) ∨ (c = 3 ∧ f = 23) ∨ (c = 4 ∧ f = 84) ∨ (c = 5 ∧ f = 85) ∨ (c = 7 ∧ f = 86) ∨ (c = 8 ∧ f = 87) ∨ (c = 9 ∧ f = 88) ∨ (c = 10 ∧ f = 89) ∨ (c = 16 ∧ f = 90) ∨ (c = 18 ∧ f = 91) ∨ (c = 19 ∧ f = 92) ∨ (c = 127 ∧ f = 93) ∨ (c = 255 ∧ f = 94) := by
  by_cases hc : c = 1 ∨ c = 2 ∨ c = 3 ∨ c = 4 ∨ c = 5 ∨ c = 7 ∨ c = 8 ∨ c = 9 ∨ c = 10 ∨ c = 16 ∨ c = 18 ∨ c = 19 ∨ c = 127 ∨ c = 255
  · rcases hc with rfl | rfl | rfl | rfl | rfl | rfl | rfl | rfl | rfl | rfl | rfl | rfl | rfl | rfl
    all_goals
      obtain rfl := Option.some.inj h
      simp
  · exfalso
    unfold fnOf at h
    simp only [not_or] at hc
    obtain ⟨h0, h1, h2, h3, h4, h5, h6, h7, h8, h9, h10, h11, h12, h13⟩ := hc
    simp [h0, h1, h2, h3, h4, h5, h6, h7, h8, h9, h10, h11, h12, h13] at h
theorem fnOf_known {c : Nat} : Bson.known c = (fnOf c).isSome := by
  by_cases hc : c = 1 ∨ c = 2 ∨ c = 3 ∨ c = 4 ∨ c = 5 ∨ c = 7 ∨ c = 8 ∨ c = 9 ∨ c = 10 ∨ c = 16 ∨ c = 18 ∨ c = 19 ∨ c = 127 ∨ c = 255
  · rcases hc with rfl | rfl | rfl | rfl | rfl | rfl | rfl | rfl | rfl | rfl | rfl | rfl | rfl | rfl <;> rfl
  · unfold Bson.known fnOf
    simp only [not_or] at hc
    obtain ⟨h0, h1, h2, h3, h4, h5, h6, h7, h8, h9, h10, h11, h12, h13⟩ := hc
    simp [h0, h1, h2, h3, h4, h5, h6, h7, h8, h9, h10, h11, h12, h13]
set_option maxRecDepth 100000 in
set_option maxHeartbeats 1000000 in
theorem readingOf_any (c : Nat) (w : World) : Calls Tryd.prog 77 #[.int .u8 (c : Int)] w fun e w' => e = .returned (fnV (fnOf c)) ∧ w = w' := by
  by_cases hc : c = 1 ∨ c = 2 ∨ c = 3 ∨ c = 4 ∨ c = 5 ∨ c = 7 ∨ c = 8 ∨ c = 9 ∨ c = 10 ∨ c = 16 ∨ c = 18 ∨ c = 19 ∨ c = 127 ∨ c = 255
  · rcases hc with rfl | rfl | rfl | rfl | rfl | rfl | rfl | rfl | rfl | rfl | rfl | rfl | rfl | rfl
    all_goals
      go_enter Tryd.func77, Tryd.ntmps77
      go_wp2_with fail
      go_ret
      exact ⟨rfl, rfl⟩
  · have hn : fnOf c = none := by
      unfold fnOf
      simp only [not_or] at hc
      obtain ⟨h0, h1, h2, h3, h4, h5, h6, h7, h8, h9, h10, h11, h12, h13⟩ := hc
      simp [h0, h1, h2, h3, h4, h5, h6, h7, h8, h9, h10, h11, h12, h13]
    rw [hn]
    simp only [not_or] at hc
    obtain ⟨h0, h1, h2, h3, h4, h5, h6, h7, h8, h9, h10, h11, h12, h13⟩ := hc
    have g0 : ((c : Int) == 1) = false := by rw [beq_eq_false_iff_ne]; omega
    have k0 : ¬ (c : Int) = 1 := by omega
    have g1 : ((c : Int) == 2) = false := by rw [beq_eq_false_iff_ne]; omega
    have k1 : ¬ (c : Int) = 2 := by omega
    have g2 : ((c : Int) == 3) = false := by rw [beq_eq_false_iff_ne]; omega
    have k2 : ¬ (c : Int) = 3 := by omega
    have g3 : ((c : Int) == 4) = false := by rw [beq_eq_false_iff_ne]; omega
    have k3 : ¬ (c : Int) = 4 := by omega
    have g4 : ((c : Int) == 5) = false := by rw [beq_eq_false_iff_ne]; omega
    have k4 : ¬ (c : Int) = 5 := by omega
    have g5 : ((c : Int) == 7) = false := by rw [beq_eq_false_iff_ne]; omega
    have k5 : ¬ (c : Int) = 7 := by omega
    have g6 : ((c : Int) == 8) = false := by rw [beq_eq_false_iff_ne]; omega
    have k6 : ¬ (c : Int) = 8 := by omega
    have g7 : ((c : Int) == 9) = false := by rw [beq_eq_false_iff_ne]; omega
    have k7 : ¬ (c : Int) = 9 := by omega
    have g8 : ((c : Int) == 10) = false := by rw [beq_eq_false_iff_ne]; omega
    have k8 : ¬ (c : Int) = 10 := by omega
    have g9 : ((c : Int) == 16) = false := by rw [beq_eq_false_iff_ne]; omega
    have k9 : ¬ (c : Int) = 16 := by omega
    have g10 : ((c : Int) == 18) = false := by rw [beq_eq_false_iff_ne]; omega
    have k10 : ¬ (c : Int) = 18 := by omega
    have g11 : ((c : Int) == 19) = false := by rw [beq_eq_false_iff_ne]; omega
    have k11 : ¬ (c : Int) = 19 := by omega
    have g12 : ((c : Int) == 127) = false := by rw [beq_eq_false_iff_ne]; omega
    have k12 : ¬ (c : Int) = 127 := by omega
    have g13 : ((c : Int) == 255) = false := by rw [beq_eq_false_iff_ne]; omega
    have k13 : ¬ (c : Int) = 255 := by omega
    go_enter Tryd.func77, Tryd.ntmps77
    go_wp2_with fail
    go_ret
    exact ⟨rfl, rfl⟩
/-- The call of such a method by its value. -/
theorem callF {c f : Nat} (h : fnOf c = some f) (args : Array Value) (w : World) : (callFunc f args).run Tryd.prog w = .ok (.enter f args) w := by
  rcases fnOf_cases h with ⟨-, rfl⟩ | ⟨-, rfl⟩ | ⟨-, rfl⟩ | ⟨-, rfl⟩ | ⟨-, rfl⟩ | ⟨-, rfl⟩ | ⟨-, rfl⟩ | ⟨-, rfl⟩ | ⟨-, rfl⟩ | ⟨-, rfl⟩ | ⟨-, rfl⟩ | ⟨-, rfl⟩ | ⟨-, rfl⟩ | ⟨-, rfl⟩
  all_goals kernel_rfl
end Go.Proofs.YtpiookgkkaafeaaDoor
end
section
namespace Go.Proofs.YtpiookgkkaafeaaDoor
open Go.RowKit
open Seal
open Bson (Val Res)
theorem infoU8 : (Tryd.prog.info? 5).map (fun i => (i.zero, i.size, i.bytes)) = some (some (.int .u8 0), 1, 1) := by kernel_rfl
theorem SliceIs.src {w : World} {a : Option Addr} {l : List Nat} (h : SliceIs w a l) : Src w a l.length (u8s l) := by
  rcases h with rfl | ⟨g, o, rfl, h⟩
  · exact ⟨fun _ => rfl, fun ad _ j u hu => by simp [u8s] at hu⟩
  · refine ⟨fun e => (by cases e), fun ad e j u hu => ?_⟩
    obtain rfl := Option.some.inj e
    have hj : j < l.length := by
      by_cases hj : j < l.length
      · exact hj
      · simp [u8s, List.getElem?_eq_none (show l.length ≤ j by omega)] at hu
    have h1 := h j hj
    have e1 : (⟨g, o, none⟩ : Addr).add j = ⟨g, o + j, none⟩ := by unfold Addr.add; split <;> simp_all
    rw [e1, h1]
    simp [u8s, u8, List.getElem?_eq_getElem hj] at hu
    rw [← hu, List.getD_eq_getElem?_getD, List.getElem?_eq_getElem hj]; rfl
theorem Src.drew {w : World} {a : Option Addr} {m : Nat} {news : List Value} (h : Src w a m news) : Src w.drew a m news := h
theorem u8s_one (l : List Nat) : ∀ u ∈ u8s l, u.oneCell' = true := by
  intro u hu
  obtain ⟨x, _, rfl⟩ := List.mem_map.1 hu
  rfl
/-- A row of bytes that was made is a part of a value. -/
theorem bytes_of_row {w : World} {L : Nat} {v : Value} {l : List Nat} (h : w.ownsRow L 5 1 v l.length (u8s l)) : ∃ a c, v = .slice a l.length c ∧ l.length ≤ c ∧ c ≤ 9223372036854775807 ∧ BytesIn w (fun g => L ≤ g) a l := by
  rcases h.2 with ⟨rfl, h0⟩ | ⟨g, cap, cur, rfl, hbg, hg, hnc, hcm, hcs, htake⟩
  · have hl : l = [] := List.eq_nil_of_length_eq_zero h0
    subst hl
    exact ⟨none, 0, rfl, Nat.le_refl _, by omega, .inl rfl⟩
  · have hcm' : cap ≤ 9223372036854775807 := hcm
    refine ⟨_, cap, rfl, hnc, hcm', .inr ⟨g, 0, rfl, hbg, fun j hj => ?_⟩⟩
    have := h.cells (g := g) rfl j (.int .u8 ((l.getD j 0 : Nat) : Int)) (by simp [u8s, u8, List.getElem?_eq_getElem hj, List.getD_eq_getElem?_getD])
    have e1 : (⟨g, 0, none⟩ : Addr).add j = ⟨g, 0 + j, none⟩ := by unfold Addr.add; split <;> simp_all
    rw [e1] at this
    exact this
/-- A value of bytes, behind the six stores of the result. -/
theorem bytes_stored {w w' : World} (kd : Int) (l : List Nat) (a : Option Addr) (c : Nat) (hk0 : -9223372036854775808 ≤ kd) (hk1 : kd ≤ 9223372036854775807) (ho : Oct l) (hn : l.length ≤ 65536) (hc : l.length ≤ c) (hm : c ≤ 9223372036854775807)
    (hB : BytesIn w' (fun g => w.heap.size + 1 ≤ g) a l) (u0 u1 u2 u3 u4 u5 : Value) : ValV w.heap.size (six w' w.heap.size u0 u1 u2 u3 u4 u5) (.mk kd 0 Bson.none_ l [] []) (.agg #[.int .i64 kd, .int .i64 0, .string ⟨#[]⟩, .slice a l.length c, .slice none 0 0, .slice none 0 0]) := by
  have hV : ValV (w.heap.size + 1) w' (.mk kd 0 Bson.none_ l [] []) (.agg #[.int .i64 kd, .int .i64 0, .string ⟨#[]⟩, .slice a l.length c, .slice none 0 0, .slice none 0 0]) :=
    ⟨1, a, none, none, c, 0, 0, rfl, ⟨hk0, hk1, by show (-9223372036854775808 : Int) ≤ 0; omega, by show (0 : Int) ≤ _; omega, by show (0 : Nat) ≤ _; omega, by show l.length ≤ _; omega, by show (0 : Nat) ≤ _; omega, by show (0 : Nat) ≤ _; omega, ho⟩, ⟨hc, hm⟩, ⟨Nat.le_refl _, by omega⟩, ⟨Nat.le_refl _, by omega⟩, hB, .inl rfl, .inl rfl⟩
  obtain ⟨q1, q2, q3, a1, n1, c1, a2, n2, c2, a3, n3, c3, e, h⟩ := hV.stored
  rw [e]
  exact h _ _ _ _ _ _
set_option maxRecDepth 100000 in
set_option maxHeartbeats 1000000 in
theorem raw_no (w : World) (gr : Nat) (ba : Option Addr) (bc : Nat) (b : List Nat) (k n : Nat) (kd : Int) (hn : n ≤ 2147483647) (hR : Rdr w gr ba bc b k) (h : b.length < k + n) :
    Calls Tryd.prog 100 #[.pointer (some ⟨gr, 0, none⟩), .int .i64 kd, .int .i64 (n : Int)] w (ErrPost zeroV w gr 2) := by
  have hT := Lib.hid (take_no _ gr ba bc b k n (hR.alloc (.cells zeroCs 27 (0, 0))) hn h)
  clear h hR
  go_enter Tryd.func100, Tryd.ntmps100
  go_wp2_with fail
  refine hT.out.mono ?_
  rintro e w' ⟨rfl, q, rfl⟩
  go_wp2_with fail
  exact bodyPost_ret (v := .tuple #[zeroV, .int .i64 2]) (by simp [results, Tryd.results100, go_sem, zeroV]) rfl (fin_err (grown_trans (grown_box _) (grown_drewN _ q gr)) _ _ _ _ _ _ rfl)
set_option maxRecDepth 100000 in
set_option maxHeartbeats 1000000 in
theorem raw_yes (w : World) (gr : Nat) (ba : Option Addr) (bc : Nat) (b : List Nat) (k n : Nat) (kd : Int) (hk0 : -9223372036854775808 ≤ kd) (hk1 : kd ≤ 9223372036854775807) (hR : Rdr w gr ba bc b k) (h : k + n ≤ b.length) :
    Calls Tryd.prog 100 #[.pointer (some ⟨gr, 0, none⟩), .int .i64 kd, .int .i64 (n : Int)] w (OkPost (ValV w.heap.size) w gr ba bc b (.mk kd 0 Bson.none_ ((b.drop k).take n) [] []) (b.drop (k + n))) := by
  obtain ⟨i0, hi, hz0, hz1, hz2⟩ := info_parts infoU8
  have hT := Lib.hid (take_yes _ gr ba bc b k n (hR.alloc (.cells zeroCs 27 (0, 0))) h)
  have hlt := hR.lt
  have hlen := hR.len
  have hxn : ((b.drop k).take n).length = n := by simp; omega
  have hon := oct_take hR.oct k n
  have hn : n ≤ 65536 := by omega
  obtain ⟨l, hle⟩ : ∃ l, l = (b.drop k).take n := ⟨_, rfl⟩
  rw [← hle] at hxn hon ⊢
  have HLE := Lib.hid hle
  clear hle
  have HX := Lib.hid hxn
  have HO := Lib.hid hon
  clear h hR hxn hon
  go_enter Tryd.func100, Tryd.ntmps100
  go_wp2_with fail
  refine hT.out.mono ?_
  rintro e w' ⟨a, c, rfl, hc0, hc1, hs, hR', hg⟩
  rw [← HLE.out] at hs
  have HF := Lib.hid ((Fresh.new w).grown hg hlt)
  have HG := Lib.hid (grown_trans (grown_box _) hg)
  have HS := Lib.hid (SliceIs.src hs)
  have HR' := Lib.hid hR'
  have hsz := hg.size
  rw [show (w.alloc (.cells zeroCs 27 (0, 0))).heap.size = w.heap.size + 1 by simp] at hsz
  have hsrc : Hid (Src w' a n (u8s l)) := by have h := HS.out; rw [HX.out] at h; exact h
  have hul : Hid ((u8s l).length = n * 1) := by show _ = _; simp [u8s, HX.out]
  have h63 : Hid (0 + n ≤ maxLen) := by show _ ≤ _; unfold maxLen; omega
  have h47 : Hid ((0 + n) * 1 ≤ 140737488355328) := by show _ ≤ _; omega
  clear hs hR' hg
  clear HS
  go_wp2_with (at_builtin; refine wpList_src rfl (.const (.slice none 0 0)) (.tmp 21) 22 rfl (w.heap.size + 1) 5 i0 (.int .u8 0) 1 1 Tryd.underlying22 hi hz0 hz1 hz2 rfl (by decide) (.slice none 0 0) 0 [] rfl (World.ownsRow_nil _ _ _ _) a n c (u8s l) rfl hsrc.out hul.out (u8s_one l) h63.out h47.out hsz ?_; intro v' w2 hown hgrow
               have hown2 : w2.ownsRow (w.heap.size + 1) 5 1 v' l.length (u8s l) := by rw [HX.out]; simpa using hown
               obtain ⟨a2, c2, rfl, hc2, hc2m, hB⟩ := bytes_of_row hown2
               have hb2 : Below w'.heap.size w' w2 := ⟨hgrow.os, hgrow.tape, hgrow.output, hgrow.size, fun g hg => hgrow.block g hg (by simp [Value.ownBlock])⟩
               have HF2 := Lib.hid (HF.out.grown (grown_below hb2 gr) hlt)
               have HG2 := Lib.hid (grown_trans HG.out (grown_below hb2 gr))
               have HR2 := Lib.hid (HR'.out.keep hb2)
               have HB := Lib.hid hB
               have HC2 := Lib.hid hc2
               clear hown hgrow hown2 hb2 hB hc2
               obtain ⟨d0, f0⟩ := HF2.out.cells 0 _ rfl
               obtain ⟨d1, f1⟩ := HF2.out.cells 1 _ rfl
               obtain ⟨d2, f2⟩ := HF2.out.cells 2 _ rfl
               obtain ⟨d3, f3⟩ := HF2.out.cells 3 _ rfl
               obtain ⟨d4, f4⟩ := HF2.out.cells 4 _ rfl
               obtain ⟨d5, f5⟩ := HF2.out.cells 5 _ rfl)
  exact bodyPost_ret (v := .tuple #[.agg #[.int .i64 kd, .int .i64 0, .string ⟨#[]⟩, .slice a2 l.length c2, .slice none 0 0, .slice none 0 0], .int .i64 0]) (by simp [results, Tryd.results100, go_sem, *]) rfl (fin_ok hlt HF2.out HR2.out HG2.out _ _ _ _ _ _
    (bytes_stored kd l a2 c2 hk0 hk1 HO.out (by have := HX.out; omega) HC2.out hc2m HB.out _ _ _ _ _ _) rfl)
end Go.Proofs.YtpiookgkkaafeaaDoor
end
section
namespace Go.Proofs.YtpiookgkkaafeaaDoor
open Go.RowKit
open Seal
theorem oneNew8 (w : World) (v : Value) : ∀ j u, [v][j]? = some u → (w.alloc (.cells #[v] 5)).cell? ((⟨w.heap.size, 0, none⟩ : Addr).add j) = some u := by
  intro j u hj
  match j, hj with
  | 0, hj =>
    simp at hj; subst hj
    exact (cell_of_row _ _ 0 _ _ _ (heap_alloc_new w _)).trans rfl
theorem byteV (x : Int) (k : Nat) : (Value.int .u8 (x / 2 ^ (8 * k) % 256)) = u8 (Bson.byteAt x k) := by
  unfold u8 Bson.byteAt
  have h1 := Int.emod_nonneg (x / (2 ^ (8 * k) : Nat)) (show (256 : Int) ≠ 0 by decide)
  rw [Int.toNat_of_nonneg h1]
  simp
theorem wpList_append_room {P : Program} {w : World} {ops : Array Oper} {rest : List Oper} {o : Oper} {a : Act} {Q : Exit → Act → World → Prop} (hgd : o.guard = none) (s x : Operand) (t : TypeId)
    (ho : o.op = .call { callee := .builtin .append, args := #[s, x], argTypes := #[t, t] })
    (e : TypeId) (i : TypeInfo) (ht : P.underlying t = some (.slice e)) (hi : P.info? e = some i) (hz : i.size = 1) (g n cap : Nat) (cur : Array Value) (hs : a.eval s = .slice (some ⟨g, 0, none⟩) n cap) (hg : w.heap[g]? = some (.cells cur e (0, 0)))
    (ad : Addr) (m c : Nat) (news : List Value) (hx : a.eval x = .slice (some ad) m c) (hl : news.length = m) (hnews : ∀ j u, news[j]? = some u → w.cell? (ad.add j) = some u) (h1 : ∀ u ∈ news, u.oneCell' = true)
    (hroom : n + m ≤ cap) (hfit : n + news.length ≤ cur.size)
    (new : Array Value) (hnew : new = (cur.toList.take n ++ news ++ cur.toList.drop (n + news.length)).toArray)
    (h : ∀ w', w' = w.setRow g new → wpList P ops Q rest (a.put o.dst (.slice (some ⟨g, 0, none⟩) (n + m) cap)) w') : wpList P ops Q (o :: rest) a w := by
  refine wpList_plain hgd fun K hK => ?_
  have hr := run_append_room (P := P) w t o.type e i ht hi g n cap cur hg ad m c news (by rw [hz]; omega) hnews h1 hroom (by rw [hz]; omega)
  rw [hz, Nat.mul_one, ← hnew] at hr
  unfold Oper.wp execOp
  simp only [ho, resolve, invoke, builtin, Sem.run_bind, Sem.run_pure, Result.andThen_ok, List.map_toArray, List.map_cons, List.map_nil, hs, hx, hr]
  exact hK _ _ (h _ rfl)
set_option maxRecDepth 100000 in
set_option maxHeartbeats 1000000 in
theorem putNumber_own (w : World) (base : Nat) (v : Value) (bs : List Nat) (x : Int) (n : Nat) (hv : Own8 w base v bs) (hn : n ≤ 8) (hl : bs.length ≤ 1000000) :
    Calls Tryd.prog 49 #[v, .int .i64 x, .int .i64 (n : Int)] w fun e w' => ∃ v', e = .returned v' ∧ Own8 w' base v' (bs ++ Bson.putB x n) ∧ PutRel base w w' := by
  obtain ⟨i0, hi, hz0, hz1, hz2⟩ := info_parts infoU8
  have HV := Lib.hid hv
  obtain ⟨a0, c0, rfl, -, -⟩ := hv.shape
  obtain ⟨b0, hb0⟩ : ∃ b, b = bs.length := ⟨_, rfl⟩
  have HB0 := Lib.hid hb0
  rw [← hb0] at hl ⊢
  clear hv hb0
  go_enter Tryd.func49, Tryd.ntmps49
  go_wp2_with fail
  go_loopw [0, 9] (fun v i wr => ∃ k : Nat, k ≤ n ∧ i = .int .i64 k ∧ Hid (Own8 wr base v (bs ++ Bson.putB x k)) ∧ Hid (PutRel base w wr)) (fun _ i _ => n - (intOf i).toNat)
  case atStart => exact ⟨0, by omega, rfl, (by rw [HB0.out]; simpa [Bson.putB] using HV.out : Own8 w base (.slice a0 b0 c0) (bs ++ Bson.putB x 0)), PutRel.refl _ _⟩
  case round =>
    obtain ⟨k, hk, rfl, HO, HBk⟩ := hrel
    by_cases hlt : k < n
    · have hlen : (bs ++ Bson.putB x k).length = b0 + k := by rw [List.length_append, Bson.putB_length, HB0.out]
      have hown := HO.out.own
      rw [hlen] at hown
      have hsz := HO.out.sz
      have h8 : IntKind.i64.wrap (8 * (k : Int)) = 8 * (k : Int) := IntWalk.i64_in _ (by omega)
      go_wp2_with (at_builtin; refine wpList_append_own _ rfl _ _ 22 rfl base 5 i0 (.int .u8 0) 1 1 Tryd.underlying22 hi hz0 hz1 hz2 rfl (by decide) _ (b0 + k) _ rfl (hown.alloc _) ⟨wr.heap.size, 0, none⟩ 1 1 [.int .u8 (x / 2 ^ (8 * k) % 256)] rfl rfl ?c1 ?c2 ?c4 ?c5 ?c6 ?_)
      case c1 => exact oneNew8 _ _
      case c2 => intro u hu; simp at hu; subst hu; rfl
      case c4 => unfold maxLen; omega
      case c5 => omega
      case c6 => simp; omega
      intro v' w1 hown1 hgrow1 _
      have hB1 : PutRel base w w1 := HBk.out.trans ((PutRel.new ((Below.refl _ wr).alloc (Nat.le_refl _) _) hsz).trans (PutRel.own (hown.alloc _) (by simp; omega) hgrow1))
      have HO2 : Hid (Own8 w1 base v' (bs ++ Bson.putB x (k + 1))) := by
        refine ⟨?_, Nat.le_trans hsz (Nat.le_trans (by simp) hgrow1.size)⟩
        rw [byteV] at hown1
        rw [Bson.putB_succ, ← List.append_assoc, List.length_append, hlen, ← u8s_snoc]
        exact hown1
      have HB1 := Lib.hid hB1
      clear hown1 hgrow1 hown hB1 hlen hsz h8
      go_wp2_with fail
      go_roundw
      case rel => exact ⟨k + 1, by omega, by go_num, HO2, HB1⟩
      case measure => simp [intOf]; omega
    · obtain rfl : k = n := by omega
      go_wp2_with fail
      go_ret
      exact ⟨_, rfl, HO.out, HBk.out⟩
theorem list_put (C : List Value) (n k : Nat) (P : List Value) (b : Value) (hn : n + k < C.length) (hP : P.length = k) :
    (C.take n ++ P ++ C.drop (n + k)).take (n + k) ++ [b] ++ (C.take n ++ P ++ C.drop (n + k)).drop (n + k + 1) = C.take n ++ (P ++ [b]) ++ C.drop (n + (k + 1)) := by
  have h1 : (C.take n ++ P).length = n + k := by rw [List.length_append, List.length_take, hP]; omega
  rw [List.take_append_of_le_length (by omega), List.take_of_length_le (by omega), List.drop_append, h1, List.drop_of_length_le (by omega), List.nil_append, show n + k + 1 - (n + k) = 1 by omega, List.drop_drop, show n + k + 1 = n + (k + 1) by omega]
  simp only [List.append_assoc]
set_option maxRecDepth 100000 in
set_option maxHeartbeats 1000000 in
theorem putNumber_room (w : World) (g n cap : Nat) (cur : Array Value) (x : Int) (m : Nat) (hg : w.heap[g]? = some (.cells cur 5 (0, 0))) (hroom : n + m ≤ cap) (hcur : cur.size = cap) (hm : m ≤ 8) (hcap : cap ≤ maxLen) :
    Calls Tryd.prog 49 #[.slice (some ⟨g, 0, none⟩) n cap, .int .i64 x, .int .i64 (m : Int)] w fun e w' =>
      (∃ v', e = .returned v') ∧ w'.heap[g]? = some (.cells (cur.toList.take n ++ u8s (Bson.putB x m) ++ cur.toList.drop (n + m)).toArray 5 (0, 0)) ∧ w.grownBy w' (some g) := by
  obtain ⟨i0, hi, -, hz1, -⟩ := info_parts infoU8
  have hgl : g < w.heap.size := (Array.getElem?_eq_some_iff.1 hg).1
  have HG := Lib.hid hg
  have HL := Lib.hid (show cur.toList.length = cap by simpa using hcur)
  have hcap2 : cap ≤ 9223372036854775807 := by unfold maxLen at hcap; omega
  clear hg hcap hcur
  go_enter Tryd.func49, Tryd.ntmps49
  go_wp2_with fail
  go_loopw [0, 9] (fun v i wr => ∃ k : Nat, k ≤ m ∧ i = .int .i64 k ∧ v = .slice (some ⟨g, 0, none⟩) (n + k) cap ∧ Hid (wr.heap[g]? = some (.cells (cur.toList.take n ++ u8s (Bson.putB x k) ++ cur.toList.drop (n + k)).toArray 5 (0, 0))) ∧ Hid (w.grownBy wr (some g))) (fun _ i _ => m - (intOf i).toNat)
  case atStart => exact ⟨0, by omega, rfl, rfl, (by rw [HG.out]; simp [Bson.putB, u8s] : w.heap[g]? = _), World.grownBy.refl w _⟩
  case round =>
    obtain ⟨k, hk, rfl, rfl, HO, HBk⟩ := hrel
    by_cases hlt : k < m
    · have h8 : IntKind.i64.wrap (8 * (k : Int)) = 8 * (k : Int) := IntWalk.i64_in _ (by omega)
      have hul : (u8s (Bson.putB x k)).length = k := by simp [u8s, Bson.putB_length]
      have hCl : (cur.toList.take n ++ u8s (Bson.putB x k) ++ cur.toList.drop (n + k)).length = cap := by
        rw [List.length_append, List.length_append, List.length_take, List.length_drop, hul, HL.out]; omega
      have HP := Lib.hid (list_put cur.toList n k (u8s (Bson.putB x k)) (.int .u8 (x / 2 ^ (8 * k) % 256)) (by rw [HL.out]; omega) hul)
      generalize hC : (cur.toList.take n ++ u8s (Bson.putB x k) ++ cur.toList.drop (n + k)) = C at *
      clear hC
      have hgr : g < wr.heap.size := (Array.getElem?_eq_some_iff.1 HO.out).1
      have hgA : (wr.alloc (.cells #[.int .u8 (x / 2 ^ (8 * k) % 256)] 5)).heap[g]? = some (.cells C.toArray 5 (0, 0)) := (((Below.refl _ wr).alloc (Nat.le_refl _) _).block g hgr).trans HO.out
      obtain ⟨new, hnew⟩ : ∃ r, r = (C.toArray.toList.take (n + k) ++ [Value.int .u8 (x / 2 ^ (8 * k) % 256)] ++ C.toArray.toList.drop (n + k + [Value.int .u8 (x / 2 ^ (8 * k) % 256)].length)).toArray := ⟨_, rfl⟩
      have HNEW := Lib.hid hnew
      clear hnew
      go_wp2_with (at_builtin; refine wpList_append_room rfl _ _ 22 rfl 5 i0 Tryd.underlying22 hi hz1 g (n + k) cap C.toArray rfl hgA ⟨wr.heap.size, 0, none⟩ 1 1 [.int .u8 (x / 2 ^ (8 * k) % 256)] rfl rfl ?c1 ?c2 ?c3 ?c4 new HNEW.out ?_)
      case c2 => rfl
      case c3 => omega
      case c4 => first | omega | (rw [hCl]; omega) | (simp [hCl]; omega)
      have HB2 : Hid (w.grownBy ((wr.alloc (.cells #[.int .u8 (x / 2 ^ (8 * k) % 256)] 5)).setRow g new) (some g)) :=
        ⟨HBk.out.os, HBk.out.tape, HBk.out.output, Nat.le_trans HBk.out.size (by simp), fun j hj hne => (setRow_other _ g j _ (fun e => hne (by rw [e]))).trans ((((Below.refl _ wr).alloc (Nat.le_refl _) _).block j (Nat.lt_of_lt_of_le hj HBk.out.size)).trans (HBk.out.block j hj hne))⟩
      have HO3 : Hid (((wr.alloc (.cells #[.int .u8 (x / 2 ^ (8 * k) % 256)] 5)).setRow g new).heap[g]? = some (.cells (cur.toList.take n ++ u8s (Bson.putB x (k + 1)) ++ cur.toList.drop (n + (k + 1))).toArray 5 (0, 0))) := by
        show _ = _
        have h2 := HP.out
        rw [setRow_heap _ g _ new _ _ hgA, HNEW.out, Bson.putB_succ, ← u8s_snoc]
        have e1 : u8s [Bson.byteAt x k] = [.int .u8 (x / 2 ^ (8 * k) % 256)] := by rw [byteV]; rfl
        rw [e1, ← h2]
        rfl
      clear HP hgA hCl hul h8 HNEW
      go_roundw
      case rel => exact ⟨k + 1, by omega, by go_num, rfl, HO3, HB2⟩
      case measure => simp [intOf]; omega
    · obtain rfl : k = m := by omega
      go_wp2_with fail
      go_ret
      exact ⟨⟨_, rfl⟩, HO.out, HBk.out⟩
end Go.Proofs.YtpiookgkkaafeaaDoor
end
section
namespace Go.Proofs.YtpiookgkkaafeaaDoor
open Go.RowKit
open Seal
open Bson (Val Res)
theorem number_any (w : World) (gr : Nat) (ba : Option Addr) (bc : Nat) (b : List Nat) (k n : Nat) (kd : Int) (hn : n = 1 ∨ n = 4 ∨ n = 8) (hk0 : -9223372036854775808 ≤ kd) (hk1 : kd ≤ 9223372036854775807) (hR : Rdr w gr ba bc b k) :
    Reads_ zeroV (ValV w.heap.size) 101 #[.pointer (some ⟨gr, 0, none⟩), .int .i64 kd, .int .i64 (n : Int)] w gr ba bc b (Bson.number kd n (b.drop k)) := by
  refine ⟨fun e he => ?_, fun x r hx => ?_⟩
  · rcases Bson.Res.bind_err he with h | ⟨_, _, _, h⟩
    · obtain ⟨rfl, hl⟩ := btake_no hR.le h
      exact number_no w gr ba bc b k n kd (by omega) hR hl
    · cases h
  · obtain ⟨y, r', hy, h⟩ := Bson.Res.bind_ok hx
    obtain ⟨h1, rfl, rfl, _⟩ := btake_yes hR.le hy
    injection h with h2 h3
    subst h2; subst h3
    exact number_yes w gr ba bc b k n kd hn hk0 hk1 hR h1
def rawRes (kd : Int) (n : Nat) (l : List Nat) : Res Val := (Bson.take n l).bind fun h r => .ok (.mk kd 0 Bson.none_ h [] []) r
theorem raw_any (w : World) (gr : Nat) (ba : Option Addr) (bc : Nat) (b : List Nat) (k n : Nat) (kd : Int) (hn : n ≤ 2147483647) (hk0 : -9223372036854775808 ≤ kd) (hk1 : kd ≤ 9223372036854775807) (hR : Rdr w gr ba bc b k) :
    Reads_ zeroV (ValV w.heap.size) 100 #[.pointer (some ⟨gr, 0, none⟩), .int .i64 kd, .int .i64 (n : Int)] w gr ba bc b (rawRes kd n (b.drop k)) := by
  refine ⟨fun e he => ?_, fun x r hx => ?_⟩
  · rcases Bson.Res.bind_err he with h | ⟨_, _, _, h⟩
    · obtain ⟨rfl, hl⟩ := btake_no hR.le h
      exact raw_no w gr ba bc b k n kd hn hR hl
    · cases h
  · obtain ⟨y, r', hy, h⟩ := Bson.Res.bind_ok hx
    obtain ⟨h1, rfl, rfl, _⟩ := btake_yes hR.le hy
    injection h with h2 h3
    subst h2; subst h3
    exact raw_yes w gr ba bc b k n kd hk0 hk1 hR h1
set_option maxRecDepth 100000 in
set_option maxHeartbeats 1000000 in
theorem float_any (w : World) (gr : Nat) (ba : Option Addr) (bc : Nat) (b : List Nat) (k n : Nat) (hn : n ≤ 2147483647) (hR : Rdr w gr ba bc b k) :
    Reads_ zeroV (ValV w.heap.size) 99 #[.pointer (some ⟨gr, 0, none⟩), .int .i64 (n : Int)] w gr ba bc b (Bson.float n (b.drop k)) := by
  have hR0 := hR.alloc (.cells zeroCs 27 (0, 0))
  have hlt := hR.lt
  refine ⟨fun e he => ?_, fun x r hx => ?_⟩
  · rcases Bson.Res.bind_err he with h | ⟨y, r', hy, h⟩
    · obtain ⟨rfl, hl⟩ := btake_no hR.le h
      have hT := Lib.hid (take_no _ gr ba bc b k n hR0 hn hl)
      clear h hR hR0 he hl
      go_enter Tryd.func99, Tryd.ntmps99
      go_wp2_with fail
      refine hT.out.mono ?_
      rintro e w' ⟨rfl, q, rfl⟩
      go_wp2_with fail
      exact bodyPost_ret (v := .tuple #[zeroV, .int .i64 2]) (by simp [results, Tryd.results99, go_sem, zeroV]) rfl (fin_err (grown_trans (grown_box _) (grown_drewN _ q gr)) _ _ _ _ _ _ rfl)
    · injection h with h; subst h
      obtain ⟨h1, _, _, _⟩ := btake_yes hR.le hy
      have hT := Lib.hid (take_yes _ gr ba bc b k n hR0 h1)
      clear hR hR0 he hy h1
      go_enter Tryd.func99, Tryd.ntmps99
      go_wp2_with fail
      refine hT.out.mono ?_
      rintro e w' ⟨a, c, rfl, hc0, hc1, hs, hR', hg⟩
      have HF := Lib.hid ((Fresh.new w).grown hg hlt)
      have HG := Lib.hid (grown_trans (grown_box _) hg)
      clear hs hR' hg
      obtain ⟨d0, f0⟩ := HF.out.cells 0 _ rfl
      obtain ⟨d1, f1⟩ := HF.out.cells 1 _ rfl
      obtain ⟨d2, f2⟩ := HF.out.cells 2 _ rfl
      obtain ⟨d3, f3⟩ := HF.out.cells 3 _ rfl
      obtain ⟨d4, f4⟩ := HF.out.cells 4 _ rfl
      obtain ⟨d5, f5⟩ := HF.out.cells 5 _ rfl
      go_wp2_with fail
      exact bodyPost_ret (v := .tuple #[zeroV, .int .i64 8]) (by simp [results, Tryd.results99, go_sem, zeroV, *]) rfl (fin_err HG.out _ _ _ _ _ _ rfl)
  · obtain ⟨y, r', hy, h⟩ := Bson.Res.bind_ok hx
    cases h
set_option maxRecDepth 100000 in
set_option maxHeartbeats 1000000 in
theorem id_any (w : World) (gr : Nat) (ba : Option Addr) (bc : Nat) (b : List Nat) (k : Nat) (dp : Int) (hR : Rdr w gr ba bc b k) :
    Reads_ zeroV (ValV w.heap.size) 86 #[.pointer (some ⟨gr, 0, none⟩), .int .i64 dp] w gr ba bc b (Bson.ident (b.drop k)) := by
  have hR0 := hR.alloc (.cells zeroCs 27 (0, 0))
  have hlt := hR.lt
  have H := raw_any _ gr ba bc b k 12 9 (by decide) (by decide) (by decide) hR0
  rw [show (w.alloc (.cells zeroCs 27 (0, 0))).heap.size = w.heap.size + 1 by simp] at H
  clear hR hR0
  refine ⟨fun e he => ?_, fun x r hx => ?_⟩
  · have hT := Lib.hid (H.err e he)
    clear H he
    go_enter Tryd.func86, Tryd.ntmps86
    go_wp2_with fail
    refine hT.out.mono ?_
    rintro e' w' ⟨rfl, hg⟩
    have HF := Lib.hid ((Fresh.new w).grown hg hlt)
    have HG := Lib.hid (grown_trans (grown_box _) hg)
    clear hg
    obtain ⟨d0, f0⟩ := HF.out.cells 0 _ rfl
    obtain ⟨d1, f1⟩ := HF.out.cells 1 _ rfl
    obtain ⟨d2, f2⟩ := HF.out.cells 2 _ rfl
    obtain ⟨d3, f3⟩ := HF.out.cells 3 _ rfl
    obtain ⟨d4, f4⟩ := HF.out.cells 4 _ rfl
    obtain ⟨d5, f5⟩ := HF.out.cells 5 _ rfl
    unfold zeroV
    go_wp2_with fail
    exact bodyPost_ret (v := .tuple #[zeroV, .int .i64 (e : Int)]) (by simp [results, Tryd.results86, go_sem, zeroV, *]) rfl (fin_err HG.out _ _ _ _ _ _ rfl)
  · have hT := Lib.hid (H.ok x r hx)
    clear H hx
    go_enter Tryd.func86, Tryd.ntmps86
    go_wp2_with fail
    refine hT.out.mono ?_
    rintro e' w' ⟨v, k', rfl, hV, hr, hR', hg⟩
    have HF := Lib.hid ((Fresh.new w).grown hg hlt)
    have HG := Lib.hid (grown_trans (grown_box _) hg)
    have HR' := Lib.hid hR'
    have HRR := Lib.hid hr
    obtain ⟨q1, q2, q3, a1, n1, c1, a2, n2, c2, a3, n3, c3, rfl, hS⟩ := ValV.stored hV
    have HS := Lib.hid hS
    clear hg hV hr hR' hS
    obtain ⟨d0, f0⟩ := HF.out.cells 0 _ rfl
    obtain ⟨d1, f1⟩ := HF.out.cells 1 _ rfl
    obtain ⟨d2, f2⟩ := HF.out.cells 2 _ rfl
    obtain ⟨d3, f3⟩ := HF.out.cells 3 _ rfl
    obtain ⟨d4, f4⟩ := HF.out.cells 4 _ rfl
    obtain ⟨d5, f5⟩ := HF.out.cells 5 _ rfl
    go_wp2_with fail
    exact bodyPost_ret (v := .tuple #[.agg #[.int .i64 q1, .int .i64 q2, .string q3, .slice a1 n1 c1, .slice a2 n2 c2, .slice a3 n3 c3], .int .i64 0]) (by simp [results, Tryd.results86, go_sem, *]) rfl (fin_ok hlt HF.out HR'.out HG.out _ _ _ _ _ _ (HS.out _ _ _ _ _ _) HRR.out)
set_option maxRecDepth 100000 in
set_option maxHeartbeats 1000000 in
theorem date_any (w : World) (gr : Nat) (ba : Option Addr) (bc : Nat) (b : List Nat) (k : Nat) (dp : Int) (hR : Rdr w gr ba bc b k) :
    Reads_ zeroV (ValV w.heap.size) 88 #[.pointer (some ⟨gr, 0, none⟩), .int .i64 dp] w gr ba bc b (Bson.number 11 8 (b.drop k)) := by
  have hR0 := hR.alloc (.cells zeroCs 27 (0, 0))
  have hlt := hR.lt
  have H := number_any _ gr ba bc b k 8 11 (by decide) (by decide) (by decide) hR0
  rw [show (w.alloc (.cells zeroCs 27 (0, 0))).heap.size = w.heap.size + 1 by simp] at H
  clear hR hR0
  refine ⟨fun e he => ?_, fun x r hx => ?_⟩
  · have hT := Lib.hid (H.err e he)
    clear H he
    go_enter Tryd.func88, Tryd.ntmps88
    go_wp2_with fail
    refine hT.out.mono ?_
    rintro e' w' ⟨rfl, hg⟩
    have HF := Lib.hid ((Fresh.new w).grown hg hlt)
    have HG := Lib.hid (grown_trans (grown_box _) hg)
    clear hg
    obtain ⟨d0, f0⟩ := HF.out.cells 0 _ rfl
    obtain ⟨d1, f1⟩ := HF.out.cells 1 _ rfl
    obtain ⟨d2, f2⟩ := HF.out.cells 2 _ rfl
    obtain ⟨d3, f3⟩ := HF.out.cells 3 _ rfl
    obtain ⟨d4, f4⟩ := HF.out.cells 4 _ rfl
    obtain ⟨d5, f5⟩ := HF.out.cells 5 _ rfl
    unfold zeroV
    go_wp2_with fail
    exact bodyPost_ret (v := .tuple #[zeroV, .int .i64 (e : Int)]) (by simp [results, Tryd.results88, go_sem, zeroV, *]) rfl (fin_err HG.out _ _ _ _ _ _ rfl)
  · have hT := Lib.hid (H.ok x r hx)
    clear H hx
    go_enter Tryd.func88, Tryd.ntmps88
    go_wp2_with fail
    refine hT.out.mono ?_
    rintro e' w' ⟨v, k', rfl, hV, hr, hR', hg⟩
    have HF := Lib.hid ((Fresh.new w).grown hg hlt)
    have HG := Lib.hid (grown_trans (grown_box _) hg)
    have HR' := Lib.hid hR'
    have HRR := Lib.hid hr
    obtain ⟨q1, q2, q3, a1, n1, c1, a2, n2, c2, a3, n3, c3, rfl, hS⟩ := ValV.stored hV
    have HS := Lib.hid hS
    clear hg hV hr hR' hS
    obtain ⟨d0, f0⟩ := HF.out.cells 0 _ rfl
    obtain ⟨d1, f1⟩ := HF.out.cells 1 _ rfl
    obtain ⟨d2, f2⟩ := HF.out.cells 2 _ rfl
    obtain ⟨d3, f3⟩ := HF.out.cells 3 _ rfl
    obtain ⟨d4, f4⟩ := HF.out.cells 4 _ rfl
    obtain ⟨d5, f5⟩ := HF.out.cells 5 _ rfl
    go_wp2_with fail
    exact bodyPost_ret (v := .tuple #[.agg #[.int .i64 q1, .int .i64 q2, .string q3, .slice a1 n1 c1, .slice a2 n2 c2, .slice a3 n3 c3], .int .i64 0]) (by simp [results, Tryd.results88, go_sem, *]) rfl (fin_ok hlt HF.out HR'.out HG.out _ _ _ _ _ _ (HS.out _ _ _ _ _ _) HRR.out)
set_option maxRecDepth 100000 in
set_option maxHeartbeats 1000000 in
theorem int32_any (w : World) (gr : Nat) (ba : Option Addr) (bc : Nat) (b : List Nat) (k : Nat) (dp : Int) (hR : Rdr w gr ba bc b k) :
    Reads_ zeroV (ValV w.heap.size) 90 #[.pointer (some ⟨gr, 0, none⟩), .int .i64 dp] w gr ba bc b (Bson.number 3 4 (b.drop k)) := by
  have hR0 := hR.alloc (.cells zeroCs 27 (0, 0))
  have hlt := hR.lt
  have H := number_any _ gr ba bc b k 4 3 (by decide) (by decide) (by decide) hR0
  rw [show (w.alloc (.cells zeroCs 27 (0, 0))).heap.size = w.heap.size + 1 by simp] at H
  clear hR hR0
  refine ⟨fun e he => ?_, fun x r hx => ?_⟩
  · have hT := Lib.hid (H.err e he)
    clear H he
    go_enter Tryd.func90, Tryd.ntmps90
    go_wp2_with fail
    refine hT.out.mono ?_
    rintro e' w' ⟨rfl, hg⟩
    have HF := Lib.hid ((Fresh.new w).grown hg hlt)
    have HG := Lib.hid (grown_trans (grown_box _) hg)
    clear hg
    obtain ⟨d0, f0⟩ := HF.out.cells 0 _ rfl
    obtain ⟨d1, f1⟩ := HF.out.cells 1 _ rfl
    obtain ⟨d2, f2⟩ := HF.out.cells 2 _ rfl
    obtain ⟨d3, f3⟩ := HF.out.cells 3 _ rfl
    obtain ⟨d4, f4⟩ := HF.out.cells 4 _ rfl
    obtain ⟨d5, f5⟩ := HF.out.cells 5 _ rfl
    unfold zeroV
    go_wp2_with fail
    exact bodyPost_ret (v := .tuple #[zeroV, .int .i64 (e : Int)]) (by simp [results, Tryd.results90, go_sem, zeroV, *]) rfl (fin_err HG.out _ _ _ _ _ _ rfl)
  · have hT := Lib.hid (H.ok x r hx)
    clear H hx
    go_enter Tryd.func90, Tryd.ntmps90
    go_wp2_with fail
    refine hT.out.mono ?_
    rintro e' w' ⟨v, k', rfl, hV, hr, hR', hg⟩
    have HF := Lib.hid ((Fresh.new w).grown hg hlt)
    have HG := Lib.hid (grown_trans (grown_box _) hg)
    have HR' := Lib.hid hR'
    have HRR := Lib.hid hr
    obtain ⟨q1, q2, q3, a1, n1, c1, a2, n2, c2, a3, n3, c3, rfl, hS⟩ := ValV.stored hV
    have HS := Lib.hid hS
    clear hg hV hr hR' hS
    obtain ⟨d0, f0⟩ := HF.out.cells 0 _ rfl
    obtain ⟨d1, f1⟩ := HF.out.cells 1 _ rfl
    obtain ⟨d2, f2⟩ := HF.out.cells 2 _ rfl
    obtain ⟨d3, f3⟩ := HF.out.cells 3 _ rfl
    obtain ⟨d4, f4⟩ := HF.out.cells 4 _ rfl
    obtain ⟨d5, f5⟩ := HF.out.cells 5 _ rfl
    go_wp2_with fail
    exact bodyPost_ret (v := .tuple #[.agg #[.int .i64 q1, .int .i64 q2, .string q3, .slice a1 n1 c1, .slice a2 n2 c2, .slice a3 n3 c3], .int .i64 0]) (by simp [results, Tryd.results90, go_sem, *]) rfl (fin_ok hlt HF.out HR'.out HG.out _ _ _ _ _ _ (HS.out _ _ _ _ _ _) HRR.out)
set_option maxRecDepth 100000 in
set_option maxHeartbeats 1000000 in
theorem int64_any (w : World) (gr : Nat) (ba : Option Addr) (bc : Nat) (b : List Nat) (k : Nat) (dp : Int) (hR : Rdr w gr ba bc b k) :
    Reads_ zeroV (ValV w.heap.size) 91 #[.pointer (some ⟨gr, 0, none⟩), .int .i64 dp] w gr ba bc b (Bson.number 4 8 (b.drop k)) := by
  have hR0 := hR.alloc (.cells zeroCs 27 (0, 0))
  have hlt := hR.lt
  have H := number_any _ gr ba bc b k 8 4 (by decide) (by decide) (by decide) hR0
  rw [show (w.alloc (.cells zeroCs 27 (0, 0))).heap.size = w.heap.size + 1 by simp] at H
  clear hR hR0
  refine ⟨fun e he => ?_, fun x r hx => ?_⟩
  · have hT := Lib.hid (H.err e he)
    clear H he
    go_enter Tryd.func91, Tryd.ntmps91
    go_wp2_with fail
    refine hT.out.mono ?_
    rintro e' w' ⟨rfl, hg⟩
    have HF := Lib.hid ((Fresh.new w).grown hg hlt)
    have HG := Lib.hid (grown_trans (grown_box _) hg)
    clear hg
    obtain ⟨d0, f0⟩ := HF.out.cells 0 _ rfl
    obtain ⟨d1, f1⟩ := HF.out.cells 1 _ rfl
    obtain ⟨d2, f2⟩ := HF.out.cells 2 _ rfl
    obtain ⟨d3, f3⟩ := HF.out.cells 3 _ rfl
    obtain ⟨d4, f4⟩ := HF.out.cells 4 _ rfl
    obtain ⟨d5, f5⟩ := HF.out.cells 5 _ rfl
    unfold zeroV
    go_wp2_with fail
    exact bodyPost_ret (v := .tuple #[zeroV, .int .i64 (e : Int)]) (by simp [results, Tryd.results91, go_sem, zeroV, *]) rfl (fin_err HG.out _ _ _ _ _ _ rfl)
  · have hT := Lib.hid (H.ok x r hx)
    clear H hx
    go_enter Tryd.func91, Tryd.ntmps91
    go_wp2_with fail
    refine hT.out.mono ?_
    rintro e' w' ⟨v, k', rfl, hV, hr, hR', hg⟩
    have HF := Lib.hid ((Fresh.new w).grown hg hlt)
    have HG := Lib.hid (grown_trans (grown_box _) hg)
    have HR' := Lib.hid hR'
    have HRR := Lib.hid hr
    obtain ⟨q1, q2, q3, a1, n1, c1, a2, n2, c2, a3, n3, c3, rfl, hS⟩ := ValV.stored hV
    have HS := Lib.hid hS
    clear hg hV hr hR' hS
    obtain ⟨d0, f0⟩ := HF.out.cells 0 _ rfl
    obtain ⟨d1, f1⟩ := HF.out.cells 1 _ rfl
    obtain ⟨d2, f2⟩ := HF.out.cells 2 _ rfl
    obtain ⟨d3, f3⟩ := HF.out.cells 3 _ rfl
    obtain ⟨d4, f4⟩ := HF.out.cells 4 _ rfl
    obtain ⟨d5, f5⟩ := HF.out.cells 5 _ rfl
    go_wp2_with fail
    exact bodyPost_ret (v := .tuple #[.agg #[.int .i64 q1, .int .i64 q2, .string q3, .slice a1 n1 c1, .slice a2 n2 c2, .slice a3 n3 c3], .int .i64 0]) (by simp [results, Tryd.results91, go_sem, *]) rfl (fin_ok hlt HF.out HR'.out HG.out _ _ _ _ _ _ (HS.out _ _ _ _ _ _) HRR.out)
set_option maxRecDepth 100000 in
set_option maxHeartbeats 1000000 in
theorem double_any (w : World) (gr : Nat) (ba : Option Addr) (bc : Nat) (b : List Nat) (k : Nat) (dp : Int) (hR : Rdr w gr ba bc b k) :
    Reads_ zeroV (ValV w.heap.size) 82 #[.pointer (some ⟨gr, 0, none⟩), .int .i64 dp] w gr ba bc b (Bson.float 8 (b.drop k)) := by
  have hR0 := hR.alloc (.cells zeroCs 27 (0, 0))
  have hlt := hR.lt
  have H := float_any _ gr ba bc b k 8 (by decide) hR0
  rw [show (w.alloc (.cells zeroCs 27 (0, 0))).heap.size = w.heap.size + 1 by simp] at H
  clear hR hR0
  refine ⟨fun e he => ?_, fun x r hx => ?_⟩
  · have hT := Lib.hid (H.err e he)
    clear H he
    go_enter Tryd.func82, Tryd.ntmps82
    go_wp2_with fail
    refine hT.out.mono ?_
    rintro e' w' ⟨rfl, hg⟩
    have HF := Lib.hid ((Fresh.new w).grown hg hlt)
    have HG := Lib.hid (grown_trans (grown_box _) hg)
    clear hg
    obtain ⟨d0, f0⟩ := HF.out.cells 0 _ rfl
    obtain ⟨d1, f1⟩ := HF.out.cells 1 _ rfl
    obtain ⟨d2, f2⟩ := HF.out.cells 2 _ rfl
    obtain ⟨d3, f3⟩ := HF.out.cells 3 _ rfl
    obtain ⟨d4, f4⟩ := HF.out.cells 4 _ rfl
    obtain ⟨d5, f5⟩ := HF.out.cells 5 _ rfl
    unfold zeroV
    go_wp2_with fail
    exact bodyPost_ret (v := .tuple #[zeroV, .int .i64 (e : Int)]) (by simp [results, Tryd.results82, go_sem, zeroV, *]) rfl (fin_err HG.out _ _ _ _ _ _ rfl)
  · have hT := Lib.hid (H.ok x r hx)
    clear H hx
    go_enter Tryd.func82, Tryd.ntmps82
    go_wp2_with fail
    refine hT.out.mono ?_
    rintro e' w' ⟨v, k', rfl, hV, hr, hR', hg⟩
    have HF := Lib.hid ((Fresh.new w).grown hg hlt)
    have HG := Lib.hid (grown_trans (grown_box _) hg)
    have HR' := Lib.hid hR'
    have HRR := Lib.hid hr
    obtain ⟨q1, q2, q3, a1, n1, c1, a2, n2, c2, a3, n3, c3, rfl, hS⟩ := ValV.stored hV
    have HS := Lib.hid hS
    clear hg hV hr hR' hS
    obtain ⟨d0, f0⟩ := HF.out.cells 0 _ rfl
    obtain ⟨d1, f1⟩ := HF.out.cells 1 _ rfl
    obtain ⟨d2, f2⟩ := HF.out.cells 2 _ rfl
    obtain ⟨d3, f3⟩ := HF.out.cells 3 _ rfl
    obtain ⟨d4, f4⟩ := HF.out.cells 4 _ rfl
    obtain ⟨d5, f5⟩ := HF.out.cells 5 _ rfl
    go_wp2_with fail
    exact bodyPost_ret (v := .tuple #[.agg #[.int .i64 q1, .int .i64 q2, .string q3, .slice a1 n1 c1, .slice a2 n2 c2, .slice a3 n3 c3], .int .i64 0]) (by simp [results, Tryd.results82, go_sem, *]) rfl (fin_ok hlt HF.out HR'.out HG.out _ _ _ _ _ _ (HS.out _ _ _ _ _ _) HRR.out)
set_option maxRecDepth 100000 in
set_option maxHeartbeats 1000000 in
theorem decimal_any (w : World) (gr : Nat) (ba : Option Addr) (bc : Nat) (b : List Nat) (k : Nat) (dp : Int) (hR : Rdr w gr ba bc b k) :
    Reads_ zeroV (ValV w.heap.size) 92 #[.pointer (some ⟨gr, 0, none⟩), .int .i64 dp] w gr ba bc b (Bson.float 16 (b.drop k)) := by
  have hR0 := hR.alloc (.cells zeroCs 27 (0, 0))
  have hlt := hR.lt
  have H := float_any _ gr ba bc b k 16 (by decide) hR0
  rw [show (w.alloc (.cells zeroCs 27 (0, 0))).heap.size = w.heap.size + 1 by simp] at H
  clear hR hR0
  refine ⟨fun e he => ?_, fun x r hx => ?_⟩
  · have hT := Lib.hid (H.err e he)
    clear H he
    go_enter Tryd.func92, Tryd.ntmps92
    go_wp2_with fail
    refine hT.out.mono ?_
    rintro e' w' ⟨rfl, hg⟩
    have HF := Lib.hid ((Fresh.new w).grown hg hlt)
    have HG := Lib.hid (grown_trans (grown_box _) hg)
    clear hg
    obtain ⟨d0, f0⟩ := HF.out.cells 0 _ rfl
    obtain ⟨d1, f1⟩ := HF.out.cells 1 _ rfl
    obtain ⟨d2, f2⟩ := HF.out.cells 2 _ rfl
    obtain ⟨d3, f3⟩ := HF.out.cells 3 _ rfl
    obtain ⟨d4, f4⟩ := HF.out.cells 4 _ rfl
    obtain ⟨d5, f5⟩ := HF.out.cells 5 _ rfl
    unfold zeroV
    go_wp2_with fail
    exact bodyPost_ret (v := .tuple #[zeroV, .int .i64 (e : Int)]) (by simp [results, Tryd.results92, go_sem, zeroV, *]) rfl (fin_err HG.out _ _ _ _ _ _ rfl)
  · have hT := Lib.hid (H.ok x r hx)
    clear H hx
    go_enter Tryd.func92, Tryd.ntmps92
    go_wp2_with fail
    refine hT.out.mono ?_
    rintro e' w' ⟨v, k', rfl, hV, hr, hR', hg⟩
    have HF := Lib.hid ((Fresh.new w).grown hg hlt)
    have HG := Lib.hid (grown_trans (grown_box _) hg)
    have HR' := Lib.hid hR'
    have HRR := Lib.hid hr
    obtain ⟨q1, q2, q3, a1, n1, c1, a2, n2, c2, a3, n3, c3, rfl, hS⟩ := ValV.stored hV
    have HS := Lib.hid hS
    clear hg hV hr hR' hS
    obtain ⟨d0, f0⟩ := HF.out.cells 0 _ rfl
    obtain ⟨d1, f1⟩ := HF.out.cells 1 _ rfl
    obtain ⟨d2, f2⟩ := HF.out.cells 2 _ rfl
    obtain ⟨d3, f3⟩ := HF.out.cells 3 _ rfl
    obtain ⟨d4, f4⟩ := HF.out.cells 4 _ rfl
    obtain ⟨d5, f5⟩ := HF.out.cells 5 _ rfl
    go_wp2_with fail
    exact bodyPost_ret (v := .tuple #[.agg #[.int .i64 q1, .int .i64 q2, .string q3, .slice a1 n1 c1, .slice a2 n2 c2, .slice a3 n3 c3], .int .i64 0]) (by simp [results, Tryd.results92, go_sem, *]) rfl (fin_ok hlt HF.out HR'.out HG.out _ _ _ _ _ _ (HS.out _ _ _ _ _ _) HRR.out)
set_option maxRecDepth 100000 in
set_option maxHeartbeats 1000000 in
theorem null_any (w : World) (gr : Nat) (ba : Option Addr) (bc : Nat) (b : List Nat) (k : Nat) (dp : Int) (hR : Rdr w gr ba bc b k) :
    Reads_ zeroV (ValV w.heap.size) 89 #[.pointer (some ⟨gr, 0, none⟩), .int .i64 dp] w gr ba bc b (.ok (.mk 2 0 Bson.none_ [] [] []) (b.drop k)) := by
  have HR := Lib.hid hR
  clear hR
  refine ⟨fun e he => (by cases he), fun x r hx => ?_⟩
  injection hx with h1 h2
  subst h1; subst h2
  go_enter Tryd.func89, Tryd.ntmps89
  go_wp2_with fail
  exact bodyPost_ret (v := .tuple #[.agg #[.int .i64 2, .int .i64 0, .string ⟨#[]⟩, .slice none 0 0, .slice none 0 0, .slice none 0 0], .int .i64 0]) (by simp [results, Tryd.results89, go_sem]) rfl ⟨_, k, rfl, vin_flat _ _ 2 0 ⟨#[]⟩ (by decide) (by decide) (by decide) (by decide) (by decide), rfl, HR.out.alloc _, grown_box _⟩
set_option maxRecDepth 100000 in
set_option maxHeartbeats 1000000 in
theorem least_any (w : World) (gr : Nat) (ba : Option Addr) (bc : Nat) (b : List Nat) (k : Nat) (dp : Int) (hR : Rdr w gr ba bc b k) :
    Reads_ zeroV (ValV w.heap.size) 94 #[.pointer (some ⟨gr, 0, none⟩), .int .i64 dp] w gr ba bc b (.ok (.mk 1 0 Bson.none_ [] [] []) (b.drop k)) := by
  have HR := Lib.hid hR
  clear hR
  refine ⟨fun e he => (by cases he), fun x r hx => ?_⟩
  injection hx with h1 h2
  subst h1; subst h2
  go_enter Tryd.func94, Tryd.ntmps94
  go_wp2_with fail
  exact bodyPost_ret (v := .tuple #[.agg #[.int .i64 1, .int .i64 0, .string ⟨#[]⟩, .slice none 0 0, .slice none 0 0, .slice none 0 0], .int .i64 0]) (by simp [results, Tryd.results94, go_sem]) rfl ⟨_, k, rfl, vin_flat _ _ 1 0 ⟨#[]⟩ (by decide) (by decide) (by decide) (by decide) (by decide), rfl, HR.out.alloc _, grown_box _⟩
set_option maxRecDepth 100000 in
set_option maxHeartbeats 1000000 in
theorem greatest_any (w : World) (gr : Nat) (ba : Option Addr) (bc : Nat) (b : List Nat) (k : Nat) (dp : Int) (hR : Rdr w gr ba bc b k) :
    Reads_ zeroV (ValV w.heap.size) 93 #[.pointer (some ⟨gr, 0, none⟩), .int .i64 dp] w gr ba bc b (.ok (.mk 12 0 Bson.none_ [] [] []) (b.drop k)) := by
  have HR := Lib.hid hR
  clear hR
  refine ⟨fun e he => (by cases he), fun x r hx => ?_⟩
  injection hx with h1 h2
  subst h1; subst h2
  go_enter Tryd.func93, Tryd.ntmps93
  go_wp2_with fail
  exact bodyPost_ret (v := .tuple #[.agg #[.int .i64 12, .int .i64 0, .string ⟨#[]⟩, .slice none 0 0, .slice none 0 0, .slice none 0 0], .int .i64 0]) (by simp [results, Tryd.results93, go_sem]) rfl ⟨_, k, rfl, vin_flat _ _ 12 0 ⟨#[]⟩ (by decide) (by decide) (by decide) (by decide) (by decide), rfl, HR.out.alloc _, grown_box _⟩
end Go.Proofs.YtpiookgkkaafeaaDoor
end
