/- KeyEncode, KeyAwake, KeyFine. -/
import Derived.Test.YtpklnhmhbaakhaaDoorMk23
import Derived.Test.YtpklnhmhbaakhaaDoorMk10
import Derived.Test.YtpklnhmhbaakhaaDoorMk8
import Derived.Test.YtpklnhmhbaakhaaDoorMk9
import Derived.Test.YtpklnhmhbaakhaaDoorMk4
import Derived.Test.YtpklnhmhbaakhaaDoorMk11
import Derived.Test.YtpklnhmhbaakhaaDoorMk16
import Derived.Test.YtpklnhmhbaakhaaDoorMk7
set_option maxRecDepth 100000
section
namespace Go.Proofs.YtpklnhmhbaakhaaDoor
open Go.RowKit
open Seal
open Bson (Val)
theorem encB_app (L : Nat) (d : List Bool) : ∀ (l m : List Val) (i : Nat), Key.encB L d (l ++ m) i = Key.encB L d l i ++ Key.encB L d m (i + l.length)
  | [], m, i => rfl
  | x :: r, m, i => by
    rw [List.cons_append, Key.encB, Key.encB, encB_app L d r m (i + 1), List.append_assoc, List.length_cons, show i + 1 + r.length = i + (r.length + 1) by omega]
theorem encB_snoc (L : Nat) (d : List Bool) (l : List Val) (k : Nat) (hk : k < l.length) : Key.encB L d (l.take (k + 1)) 0 = Key.encB L d (l.take k) 0 ++ Key.itemB L (d.getD k false) l[k] := by
  rw [List.take_succ_eq_append_getElem hk, encB_app]
  show _ ++ (Key.itemB L _ l[k] ++ []) = _
  rw [List.append_nil, List.length_take, Nat.zero_add, Nat.min_eq_left (by omega)]
theorem item_length (L : Nat) (d : Bool) (x : Val) : (Key.itemB L d x).length = (Key.valB L x).length := by
  unfold Key.itemB
  cases d
  · rfl
  · exact List.length_map _
theorem encB_room (L : Nat) (d : List Bool) (l : List Val) (k : Nat) (hk : k < l.length) : (Key.encB L d (l.take k) 0).length + (Key.valB L l[k]).length ≤ (Key.encB L d l 0).length := by
  have h2 := congrArg List.length (encB_app L d (l.take (k + 1)) (l.drop (k + 1)) 0)
  rw [List.take_append_drop, List.length_append, encB_snoc L d l k hk, List.length_append, item_length] at h2
  omega
/-- A pen's row, where it holds something. -/
theorem Pen.open' {w : World} {gp base : Nat} {l : List Nat} {v : Value} (h : Pen w gp base l v) (hl : 0 < l.length) :
    ∃ g cap cur, v = .slice (some ⟨g, 0, none⟩) l.length cap ∧ w.heap[g]? = some (.cells cur 5 (0, 0)) ∧ l.length ≤ cap ∧ cap ≤ maxLen ∧ cur.size = cap ∧ (∀ j, j < l.length → cur[j]? = some (.int .u8 ((l.getD j 0 : Nat) : Int))) ∧ base ≤ g := by
  obtain ⟨_, ⟨_, hn⟩ | ⟨g, cap, cur, rfl, hg, hrow, h1, h2, h3, h4⟩⟩ := h.own
  · omega
  · refine ⟨g, cap, cur, rfl, hrow, h1, h2, by omega, fun j hj => ?_, hg⟩
    have e := congrArg (fun z => z[j]?) h4
    rw [List.getElem?_take_of_lt (by omega), Array.getElem?_toList] at e
    rw [e]
    simp [u8s, u8, List.getElem?_eq_getElem hj, List.getD_eq_getElem?_getD]
theorem tur_getD (t : List Nat) (j : Nat) (hj : j < t.length) : (Key.tur t).getD j 0 = 255 - t.getD j 0 := by
  unfold Key.tur
  simp [List.getD_eq_getElem?_getD, List.getElem?_eq_getElem hj]
/-- Behind a turn of the row's end. -/
theorem Pen.turned {w w' : World} {gp base : Nat} {l t : List Nat} {g cap : Nat} {cur cur' : Array Value} (h : Pen w gp base (l ++ t) (.slice (some ⟨g, 0, none⟩) (l ++ t).length cap)) (hrow : w.heap[g]? = some (.cells cur 5 (0, 0)))
    (hg : w.grownBy w' (some g)) (hrow' : w'.heap[g]? = some (.cells cur' 5 (0, 0))) (ht : TurnedTo cur cur' l.length t.length t) :
    Pen w' gp base (l ++ Key.tur t) (.slice (some ⟨g, 0, none⟩) (l ++ t).length cap) ∧ PMv gp w w' (.slice (some ⟨g, 0, none⟩) (l ++ t).length cap) (.slice (some ⟨g, 0, none⟩) (l ++ t).length cap) := by
  have htl : (Key.tur t).length = t.length := List.length_map _
  have hne : gp ≠ g := fun e => h.ne (by rw [e]; rfl)
  refine ⟨⟨(hg.block gp h.lt (fun e => hne (Option.some.inj e))).trans h.cell, ?_, oct_app' (fun c hc => h.oct c (List.mem_append.2 (.inl hc))) (fun c hc => ?_), h.ne, Nat.le_trans h.size hg.size, h.at'⟩, ⟨hg.os, hg.tape, hg.output, hg.size, fun k hk _ hk2 => hg.block k hk (fun e => hk2 e.symm), .inl rfl⟩⟩
  · obtain ⟨h0, ⟨_, hn⟩ | ⟨g2, cap2, cur2, e, hb, hr2, h1, h2, h3, h4⟩⟩ := h.own
    · rename_i hh; injection hh with hh; cases hh
    · injection e with e1 e2 e3
      obtain rfl : g = g2 := by injection e1 with e1; injection e1
      obtain rfl : cur = cur2 := by rw [hrow] at hr2; injection hr2 with hr2; injection hr2
      subst e3
      have hll : (l ++ Key.tur t).length = (l ++ t).length := by rw [List.length_append, List.length_append, htl]
      rw [hll]
      refine ⟨by simp only [u8s, List.length_map, Nat.mul_one]; exact hll, .inr ⟨g, cap, cur', rfl, hb, hrow', h1, h2, by rw [ht.1]; exact h3, ?_⟩⟩
      apply List.ext_getElem?
      intro j
      by_cases hj : j < (l ++ t).length
      · rw [List.getElem?_take_of_lt (by omega), Array.getElem?_toList, ht.2 j]
        have e4 := congrArg (fun z => z[j]?) h4
        rw [List.getElem?_take_of_lt (by omega), Array.getElem?_toList] at e4
        rw [List.length_append] at hj
        by_cases hj2 : l.length ≤ j ∧ j < l.length + t.length
        · rw [if_pos hj2]
          unfold u8s
          rw [List.getElem?_map, List.getElem?_append_right hj2.1, Key.tur, List.getElem?_map, List.getElem?_eq_getElem (show j - l.length < t.length by omega)]
          simp [u8, List.getD_eq_getElem?_getD, List.getElem?_eq_getElem (show j - l.length < t.length by omega)]
        · rw [if_neg hj2, e4]
          unfold u8s
          rw [List.getElem?_map, List.getElem?_map, List.getElem?_append_left (by omega), List.getElem?_append_left (by omega)]
      · have hx1 : (List.take ((l ++ t).length * 1) cur'.toList)[j]? = none := by
          rw [List.getElem?_eq_none]
          rw [List.length_take]; omega
        rw [hx1, List.getElem?_eq_none]
        simp only [u8s, List.length_map]
        omega
  · obtain ⟨b, _, rfl⟩ := List.mem_map.1 hc
    omega
set_option maxRecDepth 100000 in
set_option maxHeartbeats 4000000 in
theorem encode_key (h : Nat) (Q : Nat → Prop) (a : Option Addr) (n c : Nat) (l : List Val) (s : Option Addr) (nd cd : Nat) (bl : List Bool) (w : World) (hn : l.length = n) (hnb : n ≤ 1353245080339) (hI : ItemsIn w Q (VIn w Q h) a l)
    (hd : bl.length = nd) (hD : BoolsIn w Q s bl) (_ : nd ≤ 140737488355328) (hQ : ∀ g, Q g → g < w.heap.size) (hX : Maxl w w.heap.size) (hlen : (Key.encB 34 bl l 0).length ≤ 2147483647) :
    Calls Tryd.prog 24 #[.slice a n c, .slice s nd cd] w fun e w' => ∃ (a' : Option Addr) (c' : Nat) (r : List Nat), e = .returned (.slice a' r.length c') ∧ SliceIs w' a' r ∧ Oct r ∧ ((∀ x ∈ l, Key.fits 34 x) → r = Key.encB 34 bl l 0) ∧ ((¬ ∀ x ∈ l, Key.fits 34 x) → r = []) ∧ Below w.heap.size w w' := by
  have HN := Lib.hid hn
  have HI := Lib.hid hI
  have HD := Lib.hid hD
  have HND := Lib.hid hd
  have HQ := Lib.hid hQ
  have HX := Lib.hid hX
  have HLEN := Lib.hid hlen
  have hb0 : Below w.heap.size w (w.alloc (.cells #[.slice none 0 0] 71)) := (Below.refl _ w).alloc (Nat.le_refl _) _
  have HB0 := Lib.hid hb0
  have HP0 : Hid (Pen (w.alloc (.cells #[.slice none 0 0] 71)) w.heap.size w.heap.size [] (.slice none 0 0)) :=
    ⟨heap_alloc_new w _, ⟨rfl, .inl ⟨rfl, rfl⟩⟩, fun c hc => (by cases hc), nofun, hb0.size, Nat.le_refl _⟩
  clear hn hI hD hd hQ hX hlen hb0
  go_enter Tryd.func24, Tryd.ntmps24
  go_wp2_with fail
  generalize hbase : w.heap.size = base at *
  generalize (w.alloc (.cells #[.slice none 0 0] 71)) = W0 at *
  go_loopw [11] (fun i wr => ∃ (k : Nat) (u : Value), i = .int .i64 k ∧ k ≤ n ∧ Hid (Pen wr base base (Key.encB 34 bl (l.take k) 0) u) ∧ Hid (Below base w wr) ∧ Hid (∀ j, (hj : j < l.length) → j < k → Key.fits 34 l[j])) (fun i _ => n - (intOf i).toNat)
  case atStart => exact ⟨0, _, rfl, Nat.zero_le _, HP0, HB0, fun j hj h0 => absurd h0 (Nat.not_lt_zero _)⟩
  case round =>
    clear HP0 HB0
    obtain ⟨k, u, rfl, hk, HP, HB, HFT⟩ := hrel
    by_cases hlt : k < n
    case neg =>
      obtain rfl : k = n := by omega
      have c0 := HP.out.c0
      obtain ⟨b0, b1, hv⟩ := HP.out.shape
      have HS : Hid (SliceIs wr b0 (Key.encB 34 bl (l.take k) 0)) := by
        have hown := HP.out.own
        rw [hv] at hown
        obtain ⟨_, ⟨hz, h0⟩ | ⟨g, cap, cur, e, hg, hrow, h1, h2, h3, h4⟩⟩ := hown
        · exact .inl (List.eq_nil_of_length_eq_zero h0)
        · by_cases hz : (Key.encB 34 bl (l.take k) 0).length = 0
          · exact .inl (List.eq_nil_of_length_eq_zero hz)
          · obtain ⟨g2, cap2, cur2, e2, hrow2, _, _, _, hget, _⟩ := HP.out.open' (by omega)
            rw [hv] at e2
            injection e2 with e2 _ _
            refine .inr ⟨g2, 0, e2, fun j hj => ?_⟩
            rw [Nat.zero_add, cell_of_row wr g2 j _ _ _ hrow2]
            exact hget j hj
      have HOC := Lib.hid HP.out.oct
      have HTK : Hid (l.take k = l) := List.take_of_length_le (by rw [HN.out]; exact Nat.le_refl _)
      rw [HTK.out] at HS HOC hv
      subst hv
      go_wp2_with fail
      refine bodyPost_ret (v := .slice b0 (Key.encB 34 bl l 0).length b1) (by simp [results, Tryd.results24, go_sem]) rfl ?_
      refine ⟨b0, b1, _, rfl, HS.out, HOC.out, fun _ => rfl, fun hne => absurd (fun x hx => ?_) hne, by rw [hbase]; exact HB.out⟩
      obtain ⟨j, hj, rfl⟩ := List.getElem_of_mem hx
      exact HFT.out j hj (by rw [← HN.out]; exact hj)
    have hkf : k < l.length := by rw [HN.out]; exact hlt
    obtain ⟨g, o, hga, hQg, hall⟩ := HI.out.resolve_left (fun e => by rw [e] at hkf; cases hkf)
    obtain rfl := hga
    obtain ⟨v', hsix, hV⟩ := hall k hkf
    have hK := kept_base HB.out (fun g hg => HQ.out g hg)
    have hsix := hsix.kept hK hQg
    have hV : VIn wr Q h l[k] v' := VIn.kept hK (fun _ z => z) hV
    obtain ⟨q1, q2, q3, a1, a2, a3, n1, c1, n2, c2, n3, c3, rfl⟩ := hV.shape
    obtain ⟨s0, s1, s2, s3, s4, s5⟩ := hsix.cells
    have hroom := encB_room 34 bl l k hkf
    have hsn := encB_snoc 34 bl l k hkf
    obtain ⟨y, hye⟩ : ∃ y, y = l[k] := ⟨_, rfl⟩
    rw [← hye] at hV hsn hroom
    have HYE := Lib.hid hye
    have HV := Lib.hid hV
    have HSN := Lib.hid hsn
    have HK := Lib.hid hkf
    have hlen1 : (Key.encB 34 bl (l.take k) 0).length + (Key.valB 34 y).length ≤ 2147483647 := Nat.le_trans hroom HLEN.out
    obtain ⟨l1, hl1⟩ : ∃ z, z = Key.encB 34 bl (l.take k) 0 := ⟨_, rfl⟩
    have HL1 := Lib.hid hl1
    rw [← hl1] at HP hlen1
    have hb0 : Below wr.heap.size wr (wr.alloc (.cells #[.int .i64 q1, .int .i64 q2, .string q3, .slice a1 n1 c1, .slice a2 n2 c2, .slice a3 n3 c3] 27)) := (Below.refl _ wr).alloc (Nat.le_refl _) _
    have HPB : Hid (Pen (wr.alloc (.cells #[.int .i64 q1, .int .i64 q2, .string q3, .slice a1 n1 c1, .slice a2 n2 c2, .slice a3 n3 c3] 27)) base base l1 u) := HP.out.keep hb0
    have HBB : Hid (Below base w (wr.alloc (.cells #[.int .i64 q1, .int .i64 q2, .string q3, .slice a1 n1 c1, .slice a2 n2 c2, .slice a3 n3 c3] 27))) := HB.out.trans (hb0.mono HP.out.size)
    have HBX : Hid (SixIs (wr.alloc (.cells #[.int .i64 q1, .int .i64 q2, .string q3, .slice a1 n1 c1, .slice a2 n2 c2, .slice a3 n3 c3] 27)) wr.heap.size (.int .i64 q1) (.int .i64 q2) (.string q3) (.slice a1 n1 c1) (.slice a2 n2 c2) (.slice a3 n3 c3)) := SixIs.new wr _ _ _ _ _ _ _
    have hsub : IntKind.i64.wrap ((k : Int) + 1) = (k : Int) + 1 := IntWalk.i64_in _ (by omega)
    have hX1 := HX.out
    have HC1 := Lib.hid (value_all 34 (by decide) h Q y _ (wr.alloc (.cells #[.int .i64 q1, .int .i64 q2, .string q3, .slice a1 n1 c1, .slice a2 n2 c2, .slice a3 n3 c3] 27)) base base l1 u (VIn.keep hb0 HV.out) (fun g hg => HQ.out g hg) HPB.out (by have := HX.out; exact Maxl.keep this HBB.out) (by omega))
    have c0 := HPB.out.c0
    obtain ⟨z0, z1, hzv⟩ := HP.out.shape
    have HZV := Lib.hid hzv
    clear hb0 hl1 hall hV hsix hroom hsn hye hK hX1 hzv
    subst u
    go_wp2_with fail
    generalize (wr.alloc (.cells #[.int .i64 q1, .int .i64 q2, .string q3, .slice a1 n1 c1, .slice a2 n2 c2, .slice a3 n3 c3] 27)) = W1 at *
    refine HC1.out.mono ?_
    rintro e w3 ⟨ok, v3, l3, rfl, p3, m3, ht, hf⟩
    have HP3 := Lib.hid p3
    have HB3 : Hid (Below base w w3) := HBB.out.trans (m3.below HPB.out)
    have HT := Lib.hid ht
    have HFF := Lib.hid hf
    clear p3 m3 ht hf HC1
    cases ok
    · go_wp2_with fail
      refine bodyPost_ret (v := .slice none 0 0) (by simp [results, Tryd.results24, go_sem]) rfl ?_
      exact ⟨none, 0, [], rfl, .inl rfl, fun c hc => (by cases hc), fun hall => absurd (by rw [HYE.out]; exact hall _ (List.getElem_mem _)) (HFF.out (by trivial)), fun _ => rfl, by rw [hbase]; exact HB3.out⟩
    obtain ⟨hl3, hfy⟩ := HT.out rfl
    subst hl3
    have HFY : Hid (∀ j, (hj : j < l.length) → j < k + 1 → Key.fits 34 l[j]) := fun j hj hjk => by
      by_cases e : j = k
      · subst e
        rw [← HYE.out]; exact hfy
      · exact HFT.out j hj (by omega)
    have HGD : Hid (bl.getD k false = if h : k < bl.length then bl[k] else false) := by
      by_cases h : k < bl.length
      · rw [dif_pos h, List.getD_eq_getElem?_getD, List.getElem?_eq_getElem h]; rfl
      · rw [dif_neg h, List.getD_eq_getElem?_getD, List.getElem?_eq_none (by omega)]; rfl
    have d0 := HP3.out.c0
    clear hfy HT HFF HFT
    have hstay : bl.getD k false = false → Pen w3 base base (Key.encB 34 bl (l.take (k + 1)) 0) v3 := fun e => by
      rw [HSN.out, e, ← HL1.out]; exact HP3.out
    have HST := Lib.hid hstay
    clear hstay
    by_cases hkd : k < nd
    · have hkb : k < bl.length := by rw [HND.out]; exact hkd
      obtain ⟨gd, od, hsd, hQd, hcd⟩ := HD.out.resolve_left (fun e => by rw [e] at hkb; cases hkb)
      subst hsd
      have hcd := hcd k hkb
      have hdk : decide ((k : Int) < (nd : Int)) = true := decide_eq_true (by omega)
      obtain ⟨t, hte⟩ : ∃ t, t = bl[k] := ⟨_, rfl⟩
      have HTE := Lib.hid hte
      rw [← hte] at hcd
      have hcd := (HB3.out.cell (p := ⟨gd, od + k, none⟩) (HQ.out gd hQd)).trans hcd
      clear hte
      cases t
      · go_wp2_with fail
        go_roundw
        case rel => exact ⟨k + 1, v3, by go_num, by omega, HST.out (by rw [HGD.out, dif_pos hkb, ← HTE.out]), HB3.out, HFY.out⟩
        case measure => simp [intOf]; omega
      · have hpos : 0 < (Key.valB 34 y).length := by unfold Key.valB; simp
        obtain ⟨g3, cap3, cur3, hv3, hrow3, hcap, hmax, hsz, hget, hg3⟩ := HP3.out.open' (by rw [List.length_append]; omega)
        subst hv3
        have HR3 := Lib.hid hrow3
        have HGET := Lib.hid hget
        have hll : (l1 ++ Key.valB 34 y).length = l1.length + (Key.valB 34 y).length := List.length_append
        clear hrow3 hget
        have HCT := Lib.hid (turn_any w3 g3 l1.length (Key.valB 34 y).length (cap3 - l1.length) cur3 (Key.valB 34 y) HR3.out rfl (fun j hj => by
          rw [HGET.out (l1.length + j) (by rw [hll]; omega)]
          rw [List.getD_eq_getElem?_getD, List.getD_eq_getElem?_getD, List.getElem?_append_right (Nat.le_add_right _ _), Nat.add_sub_cancel_left]) (fun c hc => HP3.out.oct c (List.mem_append.2 (.inr hc))) (by rw [hll] at hcap; omega) (by omega))
        go_wp2_with fail
        go_at_call 44
        refine HCT.out.mono ?_
        rintro e w4 ⟨rfl, ⟨cur4, hr4, ht4⟩, hg4⟩
        obtain ⟨p4, m4⟩ := HP3.out.turned HR3.out hg4 hr4 ht4
        have HP4 := Lib.hid p4
        have HB4 : Hid (Below base w w4) := HB3.out.trans (m4.below HP3.out)
        have hfin : Key.encB 34 bl (l.take (k + 1)) 0 = l1 ++ Key.tur (Key.valB 34 y) := by
          rw [HSN.out, HGD.out, dif_pos hkb, ← HTE.out, ← HL1.out]; rfl
        have HFIN := Lib.hid hfin
        clear p4 m4 hg4 hr4 ht4 hfin HCT
        go_wp2_with fail
        go_roundw
        case rel => exact ⟨k + 1, _, by go_num, by omega, by rw [HFIN.out]; exact HP4.out, HB4.out, HFY.out⟩
        case measure => simp [intOf]; omega
    · have hdk : decide ((k : Int) < (nd : Int)) = false := decide_eq_false (by omega)
      go_wp2_with fail
      go_roundw
      case rel => exact ⟨k + 1, v3, by go_num, by omega, HST.out (by rw [HGD.out, dif_neg (by rw [HND.out]; exact hkd)]), HB3.out, HFY.out⟩
      case measure => simp [intOf]; omega
end Go.Proofs.YtpklnhmhbaakhaaDoor
end
section
namespace Go.Proofs.YtpklnhmhbaakhaaDoor
open Go.RowKit
open Seal
open Bson (Val)
/-- The value is a slice that reads as the bytes r. -/
def BySl (w : World) (v : Value) (r : List Nat) : Prop := ∃ a c, v = .slice a r.length c ∧ SliceIs w a r ∧ Oct r
theorem BySl.keep {w w' : World} {v : Value} {r : List Nat} (h : BySl w v r) (hb : Below w.heap.size w w') : BySl w' v r := by
  obtain ⟨a, c, h1, h2, h3⟩ := h
  exact ⟨a, c, h1, h2.keep hb, h3⟩
/-- A number's key. -/
def numK (k n : Int) : List Nat := Key.markB k :: Key.numB n
theorem numK_enc (k n : Int) (hk : k = 3 ∨ k = 4 ∨ k = 10 ∨ k = 11) : Key.encB 34 [] [.mk k n ⟨#[]⟩ [] [] []] 0 = numK k n := by
  rw [Key.encB, Key.encB, List.append_nil]
  show Key.valB 34 (.mk k n ⟨#[]⟩ [] [] []) = _
  unfold Key.valB numK
  rw [Key.beh_num (x := .mk k n ⟨#[]⟩ [] [] []) hk]
  rfl
theorem numK_length (k n : Int) : (numK k n).length = 9 := by
  unfold numK Key.numB
  rw [List.length_cons, Key.be_length]
set_option maxRecDepth 100000 in
set_option maxHeartbeats 1000000 in
theorem awf_any (n : Int) (h0 : -9223372036854775808 ≤ n) (h1 : n ≤ 9223372036854775807) (w : World) (hX : Maxl w w.heap.size) :
    Calls Tryd.prog 23 #[.int .i64 n] w fun e w' => ∃ v, e = .returned v ∧ BySl w' v (numK 4 n) ∧ Below w.heap.size w w' := by
  have hb : Below w.heap.size w (w.alloc (.cells #[.int .i64 4, .int .i64 n, .string ⟨#[]⟩, .slice none 0 0, .slice none 0 0, .slice none 0 0] 27)) := (Below.refl _ w).alloc (Nat.le_refl _) _
  have HB := Lib.hid hb
  have HC := Lib.hid (encode_key 1 (fun g => g = w.heap.size) (some ⟨w.heap.size, 0, none⟩) 1 1 [.mk 4 n ⟨#[]⟩ [] [] []] none 0 0 [] (w.alloc (.cells #[.int .i64 4, .int .i64 n, .string ⟨#[]⟩, .slice none 0 0, .slice none 0 0, .slice none 0 0] 27)) rfl (by decide)
    (one_items (heap_alloc_new w _) rfl (leaf_in _ _ 4 n (by decide) ⟨h0, h1⟩ 0)) rfl (.inl rfl) (by decide) (fun g hg => by rw [hg]; exact (Array.getElem?_eq_some_iff.1 (heap_alloc_new w _)).1) (hX.newer hb |>.mono hb.size) (by rw [numK_enc 4 n (by decide), numK_length]; decide))
  clear hb hX
  go_enter Tryd.func23, Tryd.ntmps23
  go_wp2_with fail
  go_at_call 24
  refine HC.out.mono ?_
  rintro e w1 ⟨a', c', r, rfl, hS, hO, hf, _, hb1⟩
  have hr := hf (fun x hx => by rw [List.mem_singleton.1 hx]; exact fits_leaf' (x := .mk 4 n ⟨#[]⟩ [] [] []) (show (4 : Int) ≠ 6 by decide) (show (4 : Int) ≠ 7 by decide) 34)
  rw [numK_enc 4 n (by decide)] at hr
  have HR := Lib.hid hr
  have HS := Lib.hid hS
  have HO := Lib.hid hO
  have HB1 := Lib.hid hb1
  clear hS hO hb1 hf HC hr
  go_wp2_with fail
  go_ret
  exact ⟨_, rfl, by rw [← HR.out]; exact ⟨a', c', rfl, HS.out, HO.out⟩, HB.out.trans (HB1.out.mono HB.out.size)⟩
theorem awf_some (n : Int) (h0 : -9223372036854775808 ≤ n) (h1 : n ≤ 9223372036854775807) (w w0 : World) (hb : Below w0.heap.size w0 w) (hX : Maxl w0 w0.heap.size) :
    Calls Tryd.prog 23 #[.int .i64 n] w fun e w' => ∃ a c, e = .returned (.slice a 9 c) ∧ SliceIs w' a (numK 4 n) ∧ Below w.heap.size w w' := by
  refine (awf_any n h0 h1 w ((hX.keep hb).mono hb.size)).mono ?_
  rintro e w' ⟨v, rfl, ⟨a, c, rfl, hS, _⟩, hb'⟩
  exact ⟨a, c, by rw [numK_length], hS, hb'⟩
theorem oct_numK (k n : Int) : Oct (numK k n) := by
  intro c hc
  unfold numK at hc
  rcases List.mem_cons.1 hc with e | hc
  · rw [e]; exact Key.mark_lt k
  · unfold Key.numB at hc
    revert hc
    generalize Key.off n = m
    have g : ∀ K, ∀ x ∈ Key.be m K, x < 256 := by
      intro K
      induction K with
      | zero => intro x hx; cases hx
      | succ K ih =>
        intro x hx
        rcases List.mem_cons.1 hx with e | hx
        · rw [e]; exact Nat.mod_lt _ (by decide)
        · exact ih x hx
    exact g 8 c
set_option maxRecDepth 100000 in
set_option maxHeartbeats 4000000 in
theorem key_awake (w : World) (hX : Maxl w w.heap.size) : Calls Tryd.prog 15 #[] w fun e w' => e = .returned (.bool true) ∧ Below w.heap.size w w' := by
  have HX := Lib.hid hX
  have HB0 : Hid (Below w.heap.size w w) := Below.refl _ w
  clear hX
  go_enter Tryd.func15, Tryd.ntmps15
  go_wp2_with fail
  go_at_call 23
  refine (awf_some (-5) (by decide) (by decide) w w HB0.out HX.out).mono ?_
  rintro e w1 ⟨a1, c1, rfl, hs1, hb1⟩
  have HS1 := Lib.hid hs1
  have HB1 : Hid (Below w.heap.size w w1) := HB0.out.trans (hb1.mono HB0.out.size)
  have HK1 := Lib.hid hb1
  clear hs1 hb1
  go_wp2_with fail
  go_at_call 23
  refine (awf_some (3) (by decide) (by decide) w1 w HB1.out HX.out).mono ?_
  rintro e w2 ⟨a2, c2, rfl, hs2, hb2⟩
  have HS2 := Lib.hid hs2
  have HB2 : Hid (Below w.heap.size w w2) := HB1.out.trans (hb2.mono HB1.out.size)
  have HK2 := Lib.hid hb2
  clear hs2 hb2
  go_wp2_with fail
  go_at_call 25
  refine (sign_key w2 a1 a2 9 c1 9 c2 (numK 4 (-5)) (numK 4 (3)) (numK_length _ _) (numK_length _ _) (HS1.out.keep HK2.out) HS2.out (by decide) (by decide)).mono ?_
  rw [show Order.octs (numK 4 (-5)) (numK 4 (3)) = -1 from by decide +kernel]
  rintro e w3 ⟨rfl, q3, hq3⟩
  have HB3 : Hid (Below w.heap.size w w3) := by rw [hq3]; exact below_dr HB2.out _
  clear hq3
  go_wp2_with fail
  go_at_call 23
  refine (awf_some (3) (by decide) (by decide) w3 w HB3.out HX.out).mono ?_
  rintro e w4 ⟨a4, c4, rfl, hs4, hb4⟩
  have HS4 := Lib.hid hs4
  have HB4 : Hid (Below w.heap.size w w4) := HB3.out.trans (hb4.mono HB3.out.size)
  have HK4 := Lib.hid hb4
  clear hs4 hb4
  go_wp2_with fail
  go_at_call 23
  refine (awf_some (300) (by decide) (by decide) w4 w HB4.out HX.out).mono ?_
  rintro e w5 ⟨a5, c5, rfl, hs5, hb5⟩
  have HS5 := Lib.hid hs5
  have HB5 : Hid (Below w.heap.size w w5) := HB4.out.trans (hb5.mono HB4.out.size)
  have HK5 := Lib.hid hb5
  clear hs5 hb5
  go_wp2_with fail
  go_at_call 25
  refine (sign_key w5 a4 a5 9 c4 9 c5 (numK 4 (3)) (numK 4 (300)) (numK_length _ _) (numK_length _ _) (HS4.out.keep HK5.out) HS5.out (by decide) (by decide)).mono ?_
  rw [show Order.octs (numK 4 (3)) (numK 4 (300)) = -1 from by decide +kernel]
  rintro e w6 ⟨rfl, q6, hq6⟩
  have HB6 : Hid (Below w.heap.size w w6) := by rw [hq6]; exact below_dr HB5.out _
  clear hq6
  go_wp2_with fail
  go_at_call 23
  refine (awf_some (0) (by decide) (by decide) w6 w HB6.out HX.out).mono ?_
  rintro e w7 ⟨a7, c7, rfl, hs7, hb7⟩
  have HS7 := Lib.hid hs7
  have HB7 : Hid (Below w.heap.size w w7) := HB6.out.trans (hb7.mono HB6.out.size)
  have HK7 := Lib.hid hb7
  clear hs7 hb7
  go_wp2_with fail
  go_at_call 23
  refine (awf_some (1) (by decide) (by decide) w7 w HB7.out HX.out).mono ?_
  rintro e w8 ⟨a8, c8, rfl, hs8, hb8⟩
  have HS8 := Lib.hid hs8
  have HB8 : Hid (Below w.heap.size w w8) := HB7.out.trans (hb8.mono HB7.out.size)
  have HK8 := Lib.hid hb8
  clear hs8 hb8
  go_wp2_with fail
  go_at_call 26
  refine (part_any w8 a8 9 c8 (numK 4 1) 0 1 (numK_length _ _) HS8.out (oct_numK _ _) (by decide) (by decide)).mono ?_
  rw [show hpart (hash (numK 4 1) 0) 1 = 0 from by unfold hpart; rw [if_neg (by decide), Int.emod_one]]
  rintro e w9 ⟨rfl, hw9⟩
  obtain rfl := hw9
  go_wp2_with fail
  go_at_call 27
  refine (hash_any w9 none 0 0 [] 0 rfl (.inl rfl) nofun (by decide)).mono ?_
  have hne : (hash [] 0 != 0) = true := by decide +kernel
  rintro e w10 ⟨rfl, hw10⟩
  obtain rfl := hw10
  go_wp2_with fail
  go_ret
  exact ⟨rfl, HB8.out⟩
end Go.Proofs.YtpklnhmhbaakhaaDoor
end
section
namespace Go.Proofs.YtpklnhmhbaakhaaDoor
open Go.RowKit
open Seal
open Bson (Val)
/-- What Encode leaves, of a row whose values all fit. -/
theorem encode_fine (h : Nat) (Q : Nat → Prop) (a : Option Addr) (n c : Nat) (l : List Val) (s : Option Addr) (nd cd : Nat) (bl : List Bool) (w0 w : World) (hb : Below w0.heap.size w0 w) (hn : l.length = n) (hnb : n ≤ 30) (hI : ItemsIn w Q (VIn w Q h) a l)
    (hd : bl.length = nd) (hD : BoolsIn w Q s bl) (hndb : nd ≤ 140737488355328) (hQ : ∀ g, Q g → g < w0.heap.size) (hX : Maxl w0 w0.heap.size) (hw : ∀ x ∈ l, wt h x ≤ 3000) (hf : ∀ x ∈ l, Key.fits 34 x) :
    Calls Tryd.prog 24 #[.slice a n c, .slice s nd cd] w fun e w' => ∃ (a' : Option Addr) (c' m : Nat), e = .returned (.slice a' m c') ∧ SliceIs w' a' (Key.encB 34 bl l 0) ∧ m = (Key.encB 34 bl l 0).length ∧ m ≤ 990000 ∧ Oct (Key.encB 34 bl l 0) ∧ Below w.heap.size w w' := by
  have hlen : (Key.encB 34 bl l 0).length ≤ 990000 := by
    have := enc_le 34 h bl l 0 (fun x hx => by obtain ⟨v, hv⟩ := hI.mem hx; exact hv.hgt) hw
    omega
  refine (encode_key h Q a n c l s nd cd bl w hn (by omega) hI hd hD hndb (fun g hg => Nat.lt_of_lt_of_le (hQ g hg) hb.size) ((hX.keep hb).mono hb.size) (by omega)).mono ?_
  rintro e w' ⟨a', c', r, rfl, hS, hO, hr, _, hb'⟩
  obtain rfl := hr hf
  exact ⟨a', c', _, rfl, hS, rfl, hlen, hO, hb'⟩
end Go.Proofs.YtpklnhmhbaakhaaDoor
end
