/- BsonPutL. -/
import Derived.Test.YtdihelpimpkfoaaDoorShelf
import Derived.Test.YtdihelpimpkfoaaDoorMg24
import Derived.Test.YtdihelpimpkfoaaDoorMg5
set_option maxRecDepth 100000
section
namespace Go.Proofs.YtdihelpimpkfoaaDoor
open Go.RowKit
open Seal
open Bson (Val)
def PLInv (base : Nat) (W : World) (v : Value) (bs1 bs2 : List Nat) (k : Nat) (dg : ByteArray) (ag : Value) (B : Nat) (cs : Array Value) (D : Nat → Bool) (V : Nat → Value) (w : World) : Prop :=
  PutRel base W w ∧ w.heap[B]? = some (.cells cs 28 (0, 0)) ∧ (D 0 = true → V 0 = v) ∧ (D 1 = true → V 1 = .int .i64 k) ∧ (D 2 = true → V 2 = .string dg) ∧ (D 3 = true → V 3 = ag) ∧ (D 4 = false → Own8 w base v bs1) ∧ (D 4 = true → Own8 w base (V 4) bs2) ∧
    (D 5 = false → V 5 = v) ∧ (D 5 = true → V 5 = V 4) ∧ (D 4 = true → D 0 = true) ∧ (D 5 = true → D 4 = true)
set_option maxRecDepth 100000 in
set_option maxHeartbeats 2000000 in
theorem putList_any (d : Nat) (IH : PutVal d) (Q : Nat → Prop) (h : Nat) (a : Option Addr) (n c : Nat) (l : List Val) (w : World) (base : Nat) (b : Value) (bs r : List Nat) (hn : l.length = n) (hnm : n ≤ 1353245080339) (hF : ItemsIn w Q (VIn w Q h) a l) (hQ : ∀ g, Q g → g < base) (hb : Own8 w base b bs) (he : Bson.row (Bson.enc d) (Bson.named l) = some r)
    (hl : bs.length + (5 + r.length) ≤ 900000) (hT : ∀ W, Below base w W → Lib.TabIs Tryd.prog W "internal/strconv.uint64pow10" .u64 Lib.pow10Tab) :
    Calls Tryd.prog 41 #[b, .slice a n c] w (PutPost w base (bs ++ Bson.wrap r)) := by
  have HN := Lib.hid hn
  have IH := Lib.hid IH
  have HQ := Lib.hid hQ
  have HE := Lib.hid he
  have HT := Lib.hid hT
  have HF := Lib.hid hF
  obtain ⟨a0, c0, rfl, -, -⟩ := hb.shape
  obtain ⟨m, hm⟩ : ∃ m, m = bs.length := ⟨_, rfl⟩
  have HM := Lib.hid hm
  rw [← hm] at hb hl ⊢
  have C1 := Lib.hid (putNumber_own w base _ bs 0 4 hb (by decide) (by rw [← hm]; omega))
  have h4 : Hid ((Bson.putB 0 4).length = 4) := Bson.putB_length _ _
  obtain ⟨p4, hp4⟩ : ∃ p, p = Bson.putB 0 4 := ⟨_, rfl⟩
  rw [← hp4] at C1 h4
  clear hn hQ he hT hF hm hp4 hb
  go_enter Tryd.func41, Tryd.ntmps41
  go_wp2_with fail
  refine C1.out.mono ?_
  rintro e w1 ⟨v1, rfl, hO1, hR1⟩
  have HO1 := Lib.hid hO1
  have HR1 := Lib.hid hR1
  clear hO1 hR1
  go_wp2_with fail
  go_loopw [0, 14] (fun u i wr => ∃ (k : Nat) (v : Value), i = .int .i64 k ∧ v = u ∧ k ≤ n ∧ Hid (∃ rk, Bson.row (Bson.enc d) ((Bson.named l).take k) = some rk ∧ rk.length ≤ r.length ∧ Own8 wr base v (bs ++ (p4 ++ rk))) ∧ Hid (PutRel base w wr)) (fun _ i _ => n - (intOf i).toNat)
  case atStart => exact ⟨0, v1, rfl, rfl, Nat.zero_le _, ⟨[], by rw [List.take_zero, Bson.row], Nat.zero_le _, by rw [List.append_nil]; exact HO1.out⟩, HR1⟩
  case round =>
    obtain ⟨k, v, rfl, rfl, hk, HK, HR⟩ := hrel
    by_cases hlt : k < n
    · have hkf : k < l.length := by rw [HN.out]; exact hlt
      have hkn : k < (Bson.named l).length := by rw [Bson.named_length]; exact hkf
      obtain ⟨rk, hrk, hrl, hO⟩ := HK.out
      obtain ⟨g, o, rfl, hqg, hall⟩ := HF.out.resolve_left (fun e => by rw [e] at hkf; simp at hkf)
      obtain ⟨v', hsix, hV⟩ := hall k hkf
      obtain ⟨hmay, xs, hxs, hxl⟩ := row_part (Bson.enc d) (Bson.named l) k hkn r rk HE.out hrk
      have hnx := Bson.row_next (Bson.enc d) (Bson.named l) k hkn rk xs hrk hmay hxs
      have hat := named_at l k hkf
      rw [hat] at hxs hnx hxl
      have HNX := Lib.hid hnx
      have HXL : Hid (rk.length + ((Bson.digits k).size + 2) + xs.length ≤ r.length) := hxl
      obtain ⟨q1, q2, q3, a1, n1, c1, a2, n2, c2, a3, n3, c3, rfl⟩ := VIn.form hV
      obtain ⟨d0, d1, d2, d3, d4, d5, he6, s0, s1, s2, s3, s4, s5⟩ := hsix
      obtain ⟨rfl, rfl, rfl, rfl, rfl, rfl⟩ : d0 = .int .i64 q1 ∧ d1 = .int .i64 q2 ∧ d2 = .string q3 ∧ d3 = .slice a1 n1 c1 ∧ d4 = .slice a2 n2 c2 ∧ d5 = .slice a3 n3 c3 := by
        simp only [Value.agg.injEq, Array.mk.injEq, List.cons.injEq, and_true] at he6
        obtain ⟨e0, e1, e2, e3, e4, e5⟩ := he6
        exact ⟨e0.symm, e1.symm, e2.symm, e3.symm, e4.symm, e5.symm⟩
      have hgb := HQ.out g hqg
      have z1 := cell_based s0 HR.out.below hgb
      have z2 := cell_based s1 HR.out.below hgb
      have z3 := cell_based s2 HR.out.below hgb
      have z4 := cell_based s3 HR.out.below hgb
      have z5 := cell_based s4 HR.out.below hgb
      have z6 := cell_based s5 HR.out.below hgb
      have hsb := hO.sz
      have HXS : Hid (Bson.enc d l[k] = some xs) := hxs
      have HV := Lib.hid hV
      have CI := Lib.hid (fun w ht => Tryd.strconv_Itoa (k : Int) (by omega) (by omega) w ht)
      rw [itoa_digits] at CI
      obtain ⟨dg, hdg⟩ : ∃ s, s = Bson.digits k := ⟨_, rfl⟩
      rw [← hdg] at CI
      have HDG := Lib.hid hdg
      obtain ⟨bs2, hbs2⟩ : ∃ l2, l2 = (bs ++ (p4 ++ rk)) ++ (Bson.code l[k].kind :: (Bson.bytes dg ++ (0 :: xs))) := ⟨_, rfl⟩
      have HBS := Lib.hid hbs2
      have HRB : Hid (PutRel base w (wr.alloc (.cells #[.int .i64 q1, .int .i64 q2, .string q3, .slice a1 n1 c1, .slice a2 n2 c2, .slice a3 n3 c3] 28))) := HR.out.trans (PutRel.new ((Below.refl _ wr).alloc (Nat.le_refl _) _) hsb)
      have HSB : Hid (base ≤ (wr.alloc (.cells #[.int .i64 q1, .int .i64 q2, .string q3, .slice a1 n1 c1, .slice a2 n2 c2, .slice a3 n3 c3] 28)).heap.size) := (Nat.le_trans hsb (by simp) : base ≤ (wr.alloc (.cells #[.int .i64 q1, .int .i64 q2, .string q3, .slice a1 n1 c1, .slice a2 n2 c2, .slice a3 n3 c3] 28)).heap.size)
      have HBX : Hid ((wr.alloc (.cells #[.int .i64 q1, .int .i64 q2, .string q3, .slice a1 n1 c1, .slice a2 n2 c2, .slice a3 n3 c3] 28)).heap[wr.heap.size]? = some (.cells #[.int .i64 q1, .int .i64 q2, .string q3, .slice a1 n1 c1, .slice a2 n2 c2, .slice a3 n3 c3] 28 (0, 0))) := heap_alloc_new wr _
      have HOB := Lib.hid (hO.below ((Below.refl _ wr).alloc (Nat.le_refl _) (.cells #[.int .i64 q1, .int .i64 q2, .string q3, .slice a1 n1 c1, .slice a2 n2 c2, .slice a3 n3 c3] 28)))
      have CF : Hid (∀ W, PutRel base (wr.alloc (.cells #[.int .i64 q1, .int .i64 q2, .string q3, .slice a1 n1 c1, .slice a2 n2 c2, .slice a3 n3 c3] 28)) W → Own8 W base v (bs ++ (p4 ++ rk)) → Calls Tryd.prog 24 #[v, .string dg, .agg #[.int .i64 q1, .int .i64 q2, .string q3, .slice a1 n1 c1, .slice a2 n2 c2, .slice a3 n3 c3]] W (PutPost W base bs2)) := fun W hR hOw => by
        have h1 := putField_any d IH.out Q h l[k] _ dg W base v (bs ++ (p4 ++ rk)) xs (HV.out.based HQ.out (HRB.out.trans hR).below) HQ.out hOw HXS.out (by simp only [List.length_append]; have := h4.out; have := HM.out; rw [HDG.out]; simp only at hxl; omega) (fun W' hb => HT.out W' ((HRB.out.trans hR).below.trans hb))
        rw [← HBS.out] at h1
        exact h1
      clear s0 s1 s2 s3 s4 s5 he6 hall hsb hV hxs hnx hat hdg hbs2 hxl hmay
      go_upto_region 6 with fail
      generalize hWX : (wr.alloc (.cells #[.int .i64 q1, .int .i64 q2, .string q3, .slice a1 n1 c1, .slice a2 n2 c2, .slice a3 n3 c3] 28)) = WX at *
      have HI0 : Hid (PLInv base WX v (bs ++ (p4 ++ rk)) bs2 k dg (.agg #[.int .i64 q1, .int .i64 q2, .string q3, .slice a1 n1 c1, .slice a2 n2 c2, .slice a3 n3 c3]) wr.heap.size #[.int .i64 q1, .int .i64 q2, .string q3, .slice a1 n1 c1, .slice a2 n2 c2, .slice a3 n3 c3] (fun _ => false) (fun i => if i = 5 then v else undef) WX) := ⟨PutRel.refl _ _, HBX.out, nofun, nofun, nofun, nofun, fun _ => HOB.out, nofun, fun _ => rfl, nofun, nofun, nofun⟩
      clear hWX hO
      refine wp_region_inv0 (fun V => { tmps := #[V 5, .slice (some ⟨g, o, none⟩) n c, undef, undef, .slice none 0 0, .int .i64 m, .int .i64 k, .pointer (some ⟨wr.heap.size, 0, none⟩), .slice a0 m c0, .int .i64 m, .slice a0 m c0, v1, .slice (some ⟨g, o, none⟩) n c, .int .i64 n, .int .i64 k, .bool true, .int .i64 k, .pointer (some ⟨g, o + k * 6, none⟩), .agg #[.int .i64 q1, .int .i64 q2, .string q3, .slice a1 n1 c1, .slice a2 n2 c2, .slice a3 n3 c3], V 0, V 1, V 2, V 3, V 4, u24, undef, undef, undef], defers := [] }) (PLInv base WX v (bs ++ (p4 ++ rk)) bs2 k dg (.agg #[.int .i64 q1, .int .i64 q2, .string q3, .slice a1 n1 c1, .slice a2 n2 c2, .slice a3 n3 c3]) wr.heap.size #[.int .i64 q1, .int .i64 q2, .string q3, .slice a1 n1 c1, .slice a2 n2 c2, .slice a3 n3 c3]) (by kernel_rfl) (by kernel_rfl) (by kernel_rfl) (fun V => by kernel_rfl) ?_ ⟨⟨⟨rfl, rfl, rfl, Nat.le_refl _, fun _ _ => rfl⟩, fun _ _ _ _ _ hh => hh⟩, HBX.out, nofun, nofun, nofun, nofun, fun _ => ⟨HOB.out.own, HOB.out.sz⟩, nofun, fun _ => by kernel_rfl, nofun, nofun, nofun⟩ ?_
      · refine ⟨?_, ?_⟩
        · refine inv_free rfl (fun D V w5 hDi hpre hI K hK => ?_)
          have hpre := hpre.out
          obtain ⟨p, bx, h0, h1, h2, h3, h4f, h4t, h5f, h5t, h40, h54⟩ := hI
          have d4 : D 4 = false := by cases e : D 4 with | false => rfl | true => rw [h40 e] at hDi; cases hDi
          have d5 : D 5 = false := by cases e : D 5 with | false => rfl | true => rw [h54 e] at d4; cases d4
          have e5 := h5f d5
          go_simp
          exact put_is (by rw [e5]; kernel_rfl) (hK.out v w5 ⟨p, bx, fun _ => rfl, h1, h2, h3, h4f, h4t, h5f, h5t, fun _ => rfl, h54⟩)
        refine ⟨?_, ?_⟩
        · refine inv_free rfl (fun D V w5 hDi hpre hI K hK => ?_)
          have hpre := hpre.out
          obtain ⟨p, bx, h0, h1, h2, h3, h4f, h4t, h5f, h5t, h40, h54⟩ := hI
          go_simp
          exact put_is (by kernel_rfl) (hK.out (.int .i64 k) w5 ⟨p, bx, h0, fun _ => rfl, h2, h3, h4f, h4t, h5f, h5t, h40, h54⟩)
        refine ⟨?_, ?_⟩
        · refine inv_free rfl (fun D V w5 hDi hpre hI K hK => ?_)
          have hpre := hpre.out
          obtain ⟨p, bx, h0, h1, h2, h3, h4f, h4t, h5f, h5t, h40, h54⟩ := hI
          have e1 := h1 (hpre 1 (by kernel_rfl))
          go_simp
          go_at_call 40
          refine (CI.out w5 (HT.out w5 (HRB.out.trans p).below)).mono ?_
          rintro e w6 ⟨rfl, kk, os, hw6⟩
          have hb6 : Below w5.heap.size w5 w6 := hw6 ▸ below_grow (Go.below_drewN (Below.refl _ _) kk) os (Nat.le_refl _)
          exact put_is (by rw [e1]; kernel_rfl) (hK.out (.string dg) w6 ⟨p.trans (PutRel.new hb6 (Nat.le_trans HSB.out p.below.size)), (hb6.block _ (Array.getElem?_eq_some_iff.1 bx).1).trans bx, h0, h1, fun _ => rfl, h3, fun e => (h4f e).below hb6, fun e => (h4t e).below hb6, h5f, h5t, h40, h54⟩)
        refine ⟨?_, ?_⟩
        · refine inv_free rfl (fun D V w5 hDi hpre hI K hK => ?_)
          have hpre := hpre.out
          obtain ⟨p, bx, h0, h1, h2, h3, h4f, h4t, h5f, h5t, h40, h54⟩ := hI
          have c0x := cell_of_row _ _ 0 _ _ _ bx
          have c1x := cell_of_row _ _ 1 _ _ _ bx
          have c2x := cell_of_row _ _ 2 _ _ _ bx
          have c3x := cell_of_row _ _ 3 _ _ _ bx
          have c4x := cell_of_row _ _ 4 _ _ _ bx
          have c5x := cell_of_row _ _ 5 _ _ _ bx
          go_simp
          exact put_is (by kernel_rfl) (hK.out (.agg #[.int .i64 q1, .int .i64 q2, .string q3, .slice a1 n1 c1, .slice a2 n2 c2, .slice a3 n3 c3]) w5 ⟨p, bx, h0, h1, h2, fun _ => rfl, h4f, h4t, h5f, h5t, h40, h54⟩)
        refine ⟨?_, ?_⟩
        · refine inv_free rfl (fun D V w5 hDi hpre hI K hK => ?_)
          have hpre := hpre.out
          obtain ⟨p, bx, h0, h1, h2, h3, h4f, h4t, h5f, h5t, h40, h54⟩ := hI
          have e0 := h0 (hpre 0 (by kernel_rfl))
          have e2 := h2 (hpre 2 (by kernel_rfl))
          have e3 := h3 (hpre 3 (by kernel_rfl))
          go_simp
          go_at_call 24
          refine (CF.out w5 p (h4f hDi)).mono ?_
          rintro e w6 ⟨v6, rfl, hO6, hR6⟩
          exact put_is (by rw [e0, e2, e3]; kernel_rfl) (hK.out v6 w6 ⟨p.trans hR6, hR6.keep _ _ _ _ (by decide) bx, h0, h1, h2, h3, fun e => absurd (show true = false from e) (by decide), fun _ => hO6, h5f, fun e => absurd (h54 e) (by rw [hDi]; decide), fun _ => hpre 0 (by kernel_rfl), fun _ => rfl⟩)
        refine ⟨?_, ?_⟩
        · refine inv_free rfl (fun D V w5 hDi hpre hI K hK => ?_)
          have hpre := hpre.out
          obtain ⟨p, bx, h0, h1, h2, h3, h4f, h4t, h5f, h5t, h40, h54⟩ := hI
          go_simp
          exact put_is (by kernel_rfl) (hK.out (V 4) w5 ⟨p, bx, h0, h1, h2, h3, h4f, h4t, fun e => absurd (show true = false from e) (by decide), fun _ => rfl, h40, fun _ => hpre 4 (by kernel_rfl)⟩)
        trivial
      intro D V w4 hD hI
      obtain ⟨p, -, -, -, -, -, -, h4t, -, h5t, -, -⟩ := hI
      have e5 := h5t (hD 5 (by decide))
      have hO4 := h4t (hD 4 (by decide))
      rw [e5]
      generalize V 4 = v2 at *
      have HR2 := Lib.hid (HRB.out.trans p)
      have HK2 : Hid (∃ rk, Bson.row (Bson.enc d) ((Bson.named l).take (k + 1)) = some rk ∧ rk.length ≤ r.length ∧ Own8 w4 base v2 (bs ++ (p4 ++ rk))) := by
        refine ⟨_, HNX.out, ?_, ?_⟩
        · have := HXL.out
          simp [Bson.bytes_length]; omega
        · have h1 := hO4
          rw [HBS.out, HDG.out] at h1
          simp only [List.append_assoc] at h1 ⊢
          exact h1
      clear hO4 p e5 h4t h5t hD HI0
      go_wp2_with fail
      go_roundw
      case rel => exact ⟨k + 1, v2, by go_num, rfl, by omega, HK2, HR2⟩
      case measure => simp [intOf]; omega
    · obtain rfl : n = k := by omega
      obtain ⟨rk, hrk, -, hO⟩ := HK.out
      rw [List.take_of_length_le (by rw [Bson.named_length, HN.out]; exact Nat.le_refl _), HE.out] at hrk
      obtain rfl := Option.some.inj hrk
      have CC := Lib.hid (closeDoc_any wr base v bs r p4 hO h4.out (by have := HM.out; omega))
      rw [← HM.out] at CC
      clear hO hrk
      go_wp2_with fail
      refine CC.out.mono ?_
      rintro e w2 ⟨v2, rfl, hO2, hR2⟩
      have HO2 := Lib.hid hO2
      have HR2 := Lib.hid (HR.out.trans hR2)
      clear hO2 hR2
      go_wp2_with fail
      go_ret
      exact ⟨v2, rfl, HO2.out, HR2.out⟩
end Go.Proofs.YtdihelpimpkfoaaDoor
end
