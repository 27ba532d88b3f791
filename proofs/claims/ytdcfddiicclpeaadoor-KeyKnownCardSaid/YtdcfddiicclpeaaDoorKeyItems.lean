/- A pen's items, from value. -/
import Derived.Test.YtdcfddiicclpeaaDoorKeyDo
namespace Go.Proofs.YtdcfddiicclpeaaDoor
open Go.RowKit
open Seal
open Bson (Val)
set_option maxRecDepth 100000 in
set_option maxHeartbeats 4000000 in
theorem items_put (L h : Nat) (HB : ValDo L h) : ItemsPut L h := by
  intro Q f a n c w gp base l v hn hnb hF hQ hP hX hlen
  have HN := Lib.hid hn
  have HF := Lib.hid hF
  have HQ := Lib.hid hQ
  have HP0 := Lib.hid hP
  have HX := Lib.hid hX
  have HLEN := Lib.hid hlen
  have IH := Lib.hid HB
  clear HB hn hF hQ hX hlen
  go_enter Tryd.func75, Tryd.ntmps75
  go_wp2_with fail
  go_loopw [11] (fun i wr => ∃ (k : Nat) (u : Value), i = .int .i64 k ∧ k ≤ n ∧ Hid (Pen wr gp base (l ++ rowP (Key.valB L) (f.take k)) u) ∧ Hid (PMv gp w wr v u) ∧ Hid (∀ j, (hj : j < f.length) → j < k → Key.fits L f[j])) (fun i _ => n - (intOf i).toNat)
  case atStart => exact ⟨0, v, rfl, Nat.zero_le _, by rw [List.take_zero]; show Pen w gp base (l ++ []) v; rw [List.append_nil]; exact hP, PMv.of_below v (Below.refl _ w), fun j hj h0 => absurd h0 (Nat.not_lt_zero _)⟩
  case round =>
    clear hP
    obtain ⟨k, u, rfl, hk, HP, HM, HFT⟩ := hrel
    by_cases hlt : k < n
    case neg =>
      obtain rfl : k = n := by omega
      have hroom : (l ++ rowP (Key.valB L) (f.take k)).length + 1 ≤ 2147483648 := by
        rw [List.take_of_length_le (by rw [HN.out]; exact Nat.le_refl _)]
        have h1 := HLEN.out
        rw [rowB_P, List.length_append] at h1
        rw [List.length_append]
        simp only [List.length_cons, List.length_nil] at h1
        omega
      obtain ⟨v', w', hr, c1, c2, p1, p2⟩ := HP.out.byte (Below.refl _ wr) 0 (by decide) (by omega)
      have c0 := HP.out.c0
      have HE := Lib.hid (And.intro p1 (HM.out.trans p2))
      obtain ⟨b0, b1, hv⟩ := HP.out.shape
      obtain ⟨b2, b3, hv2⟩ := p1.shape
      have c9 : (wr.alloc (.cells #[.int .u8 0] 5)).cell? ⟨gp, 0, none⟩ = some u := cell_keep ((Below.refl _ wr).alloc (Nat.le_refl _) _) c0
      generalize (l ++ rowP (Key.valB L) (f.take k)).length = m at *
      generalize (l ++ rowP (Key.valB L) (f.take k) ++ [0]).length = m2 at *
      subst hv
      subst hv2
      have hrd := hr 22
      clear p1 p2 hr
      go_wp2_with (at_builtin; refine wpList_run_append rfl (.tmp 25) (.tmp 26) 22 22 rfl _ _ _ w' rfl rfl hrd ?_)
      go_ret
      refine ⟨true, _, _, rfl, HE.out.1, HE.out.2, fun _ => ⟨?_, fun p hp => ?_⟩, nofun⟩
      · rw [rowB_P, List.append_assoc, List.take_of_length_le (by rw [HN.out]; exact Nat.le_refl _)]
      · obtain ⟨j, hj, rfl⟩ := List.getElem_of_mem hp
        exact HFT.out j hj (by rw [← HN.out]; exact hj)
    have hkf : k < f.length := by rw [HN.out]; exact hlt
    have hKB := HM.out.below HP0.out
    obtain ⟨g, o, hga, hQg, hall⟩ := HF.out.resolve_left (fun e => by rw [e] at hkf; cases hkf)
    obtain rfl := hga
    obtain ⟨v', hsix, hV⟩ := hall k hkf
    have hK := kept_base hKB HQ.out
    have hsix := hsix.kept hK hQg
    have hV : VIn wr Q h f[k] v' := VIn.kept hK (fun _ z => z) hV
    obtain ⟨q1, q2, q3, a1, a2, a3, n1, c1, n2, c2, n3, c3, rfl⟩ := hV.shape
    obtain ⟨s0, s1, s2, s3, s4, s5⟩ := hsix.cells
    have HROOM := Lib.hid (rowP_room (Key.valB L) f k hkf)
    have hsn := rowP_snoc (Key.valB L) f k hkf
    obtain ⟨y, hye⟩ : ∃ y, y = f[k] := ⟨_, rfl⟩
    rw [← hye] at hV hsn
    have HYE := Lib.hid hye
    have HV := Lib.hid hV
    have HSN := Lib.hid hsn
    have HR2 : Hid ((rowP (Key.valB L) (f.take k)).length + (Key.valB L y).length + 1 ≤ (Key.rowB (Key.valB L) f).length) := by
      rw [HYE.out]; exact HROOM.out
    have HXr := Lib.hid (HX.out.keep hKB)
    have HK := Lib.hid hkf
    clear hall hsix hV HROOM hsn hye hK hKB
    obtain ⟨l1, hl1⟩ : ∃ z, z = l ++ rowP (Key.valB L) (f.take k) := ⟨_, rfl⟩
    have HL1 := Lib.hid hl1
    rw [← hl1] at HP
    have hlen1 : l1.length + (Key.valB L y).length + 1 ≤ 2147483648 := by
      rw [hl1, List.length_append]
      have h1 := HR2.out
      have h2 := HLEN.out
      omega
    have hb0 : Below wr.heap.size wr (wr.alloc (.cells #[.int .i64 q1, .int .i64 q2, .string q3, .slice a1 n1 c1, .slice a2 n2 c2, .slice a3 n3 c3] 26)) := (Below.refl _ wr).alloc (Nat.le_refl _) _
    have HPB : Hid (Pen (wr.alloc (.cells #[.int .i64 q1, .int .i64 q2, .string q3, .slice a1 n1 c1, .slice a2 n2 c2, .slice a3 n3 c3] 26)) gp base l1 u) := HP.out.keep hb0
    have HBB := hb0.mono HP.out.size
    have HBZ := Lib.hid hb0
    have hsub : IntKind.i64.wrap ((k : Int) + 1) = (k : Int) + 1 := IntWalk.i64_in _ (by have := HK.out; rw [HN.out] at this; omega)
    have HC1 := Lib.hid (IH.out Q y _ (wr.alloc (.cells #[.int .i64 q1, .int .i64 q2, .string q3, .slice a1 n1 c1, .slice a2 n2 c2, .slice a3 n3 c3] 26)) gp base l1 u (VIn.keep hb0 HV.out) HQ.out HPB.out (HXr.out.keep HBB) (by omega))
    clear hb0 hl1 HBB
    go_wp2_with fail
    generalize (wr.alloc (.cells #[.int .i64 q1, .int .i64 q2, .string q3, .slice a1 n1 c1, .slice a2 n2 c2, .slice a3 n3 c3] 26)) = W0 at *
    refine HC1.out.mono ?_
    rintro e w3 ⟨ok, v3, l3, rfl, p3, m3, ht, hf⟩
    have HP3 := Lib.hid p3
    have HM3 : Hid (PMv gp w w3 v v3) := HM.out.trans ((PMv.of_below u HBZ.out).trans m3)
    have HT := Lib.hid ht
    have HFF := Lib.hid hf
    clear p3 m3 ht hf HC1
    cases ok
    · go_wp2_with fail
      go_ret
      exact ⟨false, v3, l3, rfl, HP3.out, HM3.out, nofun, fun _ hall => HFF.out (by trivial) (by rw [HYE.out]; exact hall _ (List.getElem_mem _))⟩
    · obtain ⟨hl3, hfy⟩ := HT.out rfl
      have HL3 := Lib.hid hl3
      have HFY := Lib.hid hfy
      clear hl3 hfy
      go_wp2_with fail
      go_roundw
      case rel =>
        refine ⟨k + 1, v3, by go_num, by have := HK.out; rw [HN.out] at this; omega, ?_, HM3.out, fun j hj hjk => ?_⟩
        · have := HP3.out
          rw [HL3.out, HL1.out, List.append_assoc] at this
          rw [HSN.out]
          exact this
        · by_cases e : j = k
          · subst e
            rw [← HYE.out]; exact HFY.out
          · exact HFT.out j hj (by omega)
      case measure => simp [intOf]; have := HK.out; rw [HN.out] at this; omega
end Go.Proofs.YtdcfddiicclpeaaDoor
