/- BsonText. -/
import Derived.Test.YtdihelpimpkfoaaDoorMg28
set_option maxRecDepth 100000
section
namespace Go.Proofs.YtdihelpimpkfoaaDoor
open Go.RowKit
open Seal
open Bson (Val Res)
def textRest (n : Int) (r : List Nat) : Res Val := (Bson.take n.toNat r).bind fun t r' =>
  if t.getD (t.length - 1) 0 ≠ 0 then .err 4 else if Bson.u8 (Bson.ofBytes (t.take (t.length - 1))) = false then .err 5 else .ok (.mk 5 0 (Bson.ofBytes (t.take (t.length - 1))) [] [] []) r'
theorem text_split (l : List Nat) : Bson.text l = (lengthOf 1 l).bind textRest := by
  unfold Bson.text lengthOf
  cases Bson.take 4 l with
  | err e => rfl
  | ok h r =>
    show (if Bson.signed h < 1 then _ else _) = (if Bson.signed h < 1 then _ else _ : Res Int).bind _
    split <;> rfl
theorem lengthOf_ok {least : Int} {l r : List Nat} {n : Int} (h : lengthOf least l = .ok n r) (hl : Oct l) : least ≤ n ∧ n < 2147483648 ∧ r = l.drop 4 := by
  obtain ⟨y, r', hy, h⟩ := Bson.Res.bind_ok h
  split at h
  · cases h
  rename_i hlo
  injection h with h1 h2
  subst h1; subst h2
  obtain ⟨e1, e2⟩ := Bson.take_ok hy
  have hoy : Oct y := fun c hc => hl c (by rw [e1]; simp [hc])
  have hsb := (Bson.signed_bd _ hoy).resolve_right (fun e => by rw [e] at e2; cases e2)
  rw [e2] at hsb
  have hsb' : -2147483648 ≤ Bson.signed y ∧ Bson.signed y < 2147483648 := by simpa using hsb
  refine ⟨by omega, hsb'.2, ?_⟩
  rw [e1, ← e2]; simp
theorem ofBytes_size (l : List Nat) : (Bson.ofBytes l).size = l.length := by simp [Bson.ofBytes, ByteArray.size]
set_option maxRecDepth 100000 in
set_option maxHeartbeats 4000000 in
theorem text_any (w : World) (gr : Nat) (ba : Option Addr) (bc : Nat) (b : List Nat) (k : Nat) (dp : Int) (hR : Rdr w gr ba bc b k) (hT : Tabs8 w) :
    Reads_ zeroV (ValV w.heap.size) 49 #[.pointer (some ⟨gr, 0, none⟩), .int .i64 dp] w gr ba bc b (Bson.text (b.drop k)) := by
  have hR0 := hR.alloc (.cells zeroCs 28 (0, 0))
  have hT0 : Tabs8 (w.alloc (.cells zeroCs 28 (0, 0))) := hT.keep ((Below.refl _ w).alloc (Nat.le_refl _) _)
  have hlt := hR.lt
  have hlen := hR.len
  have H := length_any _ gr ba bc b k 1 hR0
  rw [text_split]
  cases hres : lengthOf 1 (b.drop k) with
  | err e =>
    have hE := Lib.hid (H.err e hres)
    have hne : e ≠ 0 := by
      rcases Bson.Res.bind_err hres with h | ⟨_, _, _, h⟩
      · exact Bson.take_err h
      · split at h
        · injection h with h; omega
        · cases h
    have hne' : ((e : Int) != 0) = true := by simpa using hne
    have HT0 := Lib.hid hT0
    clear H hres hR hR0 hT hT0 hne
    refine ⟨fun e2 he => ?_, fun x r hx => by cases hx⟩
    injection he with he; subst he
    go_enter Tryd.func49, Tryd.ntmps49
    go_wp2_with fail
    refine hE.out.mono ?_
    rintro e' w' ⟨rfl, hg⟩
    have HF := Lib.hid ((Fresh.new w).grown hg hlt)
    have HG := Lib.hid (grown_trans (grown_box _) hg)
    clear hg
    obtain ⟨d0, f0⟩ := HF.out.cells 0 _ rfl
    obtain ⟨d1, f1⟩ := HF.out.cells 1 _ rfl
    obtain ⟨d2, f2⟩ := HF.out.cells 2 _ rfl
    obtain ⟨d3, f3⟩ := HF.out.cells 3 _ rfl
    obtain ⟨d4, f4⟩ := HF.out.cells 4 _ rfl
    obtain ⟨d5, f5⟩ := HF.out.cells 5 _ rfl
    go_wp2_with fail
    exact bodyPost_ret (v := .tuple #[zeroV, .int .i64 (e : Int)]) (by simp [results, Tryd.results49, go_sem, zeroV, *]) rfl (fin_err HG.out _ _ _ _ _ _ rfl)
  | ok n r =>
    obtain ⟨hn1, hn2, hr4⟩ := lengthOf_ok hres (octDrop hR.oct k)
    obtain ⟨N, rfl⟩ := Int.eq_ofNat_of_zero_le (show 0 ≤ n by omega)
    have hN1 : 1 ≤ N := by omega
    have hk4 : k + 4 ≤ b.length := by
      have := hR.le
      obtain ⟨y, r', hy, _⟩ := Bson.Res.bind_ok hres
      exact (btake_yes hR.le hy).1
    have hr4' : r = b.drop (k + 4) := by rw [hr4, List.drop_drop]
    have hO := Lib.hid (H.ok _ _ hres)
    show Reads_ _ _ _ _ w gr ba bc b (textRest (N : Int) r)
    have hoct := Lib.hid hR.oct
    have HT0 := Lib.hid hT0
    -- how the first call ends
    have HLEN : Hid (∀ (Q : Ending → World → Prop), (∀ w1, Rdr w1 gr ba bc b (k + 4) → (w.alloc (.cells zeroCs 28 (0, 0))).grownBy w1 (some gr) → Tabs8 w1 → Q (.returned (.tuple #[.int .i64 (N : Int), .int .i64 0])) w1) →
        Calls Tryd.prog 35 #[.pointer (some ⟨gr, 0, none⟩), .int .i64 1] (w.alloc (.cells zeroCs 28 (0, 0))) Q) := by
      intro Q hQ
      refine hO.out.mono ?_
      rintro e w1 ⟨v, k', rfl, hv, hr', hR1, hg⟩
      obtain rfl : v = .int .i64 (N : Int) := hv
      have hk' : k' = k + 4 := by
        have h1 := congrArg List.length (hr4'.symm.trans hr')
        simp at h1
        have := hR1.le
        omega
      subst hk'
      exact hQ w1 hR1 hg (hT0.grown hR0 hg)
    have hn0 : ((N : Int) - 1) = ((N - 1 : Nat) : Int) := by omega
    clear hO H hres hT hT0
    unfold textRest
    rw [Int.toNat_natCast]
    rw [hr4']
    clear hr4 hr4'
    by_cases hsh : b.length < k + 4 + N
    · have ht : Bson.take N (b.drop (k + 4)) = .err 2 := by unfold Bson.take; rw [if_pos (by simp; omega)]
      rw [ht]
      have HSH := Lib.hid hsh
      clear ht hsh hR hR0
      refine ⟨fun e2 he => ?_, fun x r hx => by cases hx⟩
      injection he with he; subst he
      go_enter Tryd.func49, Tryd.ntmps49
      go_wp2_with fail
      refine HLEN.out _ ?_
      intro w1 hR1 hg1 hT1
      have HG1 := Lib.hid (grown_trans (grown_box _) hg1)
      have HF1 := Lib.hid ((Fresh.new w).grown hg1 hlt)
      have CT := Lib.hid (take_no w1 gr ba bc b (k + 4) N hR1 (by omega) HSH.out)
      clear hR1 hg1 hT1
      go_wp2_with fail
      refine CT.out.mono ?_
      rintro e w2 ⟨rfl, q, rfl⟩
      obtain ⟨d0, f0⟩ := HF1.out.cells 0 _ rfl
      obtain ⟨d1, f1⟩ := HF1.out.cells 1 _ rfl
      obtain ⟨d2, f2⟩ := HF1.out.cells 2 _ rfl
      obtain ⟨d3, f3⟩ := HF1.out.cells 3 _ rfl
      obtain ⟨d4, f4⟩ := HF1.out.cells 4 _ rfl
      obtain ⟨d5, f5⟩ := HF1.out.cells 5 _ rfl
      go_wp2_with fail
      exact bodyPost_ret (v := .tuple #[zeroV, .int .i64 2]) (by simp [results, Tryd.results49, go_sem, zeroV, *]) rfl (fin_err (grown_trans HG1.out (grown_drewN _ q gr)) _ _ _ _ _ _ rfl)
    · have hfit : k + 4 + N ≤ b.length := by omega
      obtain ⟨t, hte⟩ : ∃ t, t = (b.drop (k + 4)).take N := ⟨_, rfl⟩
      have htl : t.length = N := by rw [hte, List.length_take, List.length_drop]; omega
      have ht : Bson.take N (b.drop (k + 4)) = .ok t (b.drop (k + 4 + N)) := by unfold Bson.take; rw [if_neg (by simp; omega), List.drop_drop, hte]
      rw [ht]
      simp only [Bson.Res.bind]
      rw [htl]
      have hot : Oct t := by rw [hte]; exact oct_take hR.oct _ _
      obtain ⟨z, hz⟩ : ∃ z, z = t.getD (N - 1) 0 := ⟨_, rfl⟩
      obtain ⟨s, hs⟩ : ∃ s, s = t.take (N - 1) := ⟨_, rfl⟩
      have hsl : s.length = N - 1 := by rw [hs, List.length_take, htl]; omega
      have hso : Oct s := by rw [hs]; exact octTake hot _
      have hz256 : z < 256 := by rw [hz]; exact hd_lt t hot _
      have HTK : Hid (∀ (w1 : World), Rdr w1 gr ba bc b (k + 4) → Tabs8 w1 → ∀ (Q : Ending → World → Prop), (∀ (w2 : World) (g o c : Nat), w2.cell? ⟨g, o + (N - 1), none⟩ = some (.int .u8 (z : Int)) → N ≤ c → c ≤ 9223372036854775807 → SliceIs w2 (some ⟨g, o, none⟩) s → Rdr w2 gr ba bc b (k + 4 + N) → w1.grownBy w2 (some gr) → Tabs8 w2 →
          Q (.returned (.tuple #[.slice (some ⟨g, o, none⟩) N c, .int .i64 0])) w2) → Calls Tryd.prog 42 #[.pointer (some ⟨gr, 0, none⟩), .int .i64 (N : Int)] w1 Q) := by
        intro w1 hR1 hT1 Q hQ
        refine (take_yes w1 gr ba bc b (k + 4) N hR1 hfit).mono ?_
        rintro e w2 ⟨a, c, rfl, hc0, hc1, hsl2, hR2, hg2⟩
        rw [← hte] at hsl2
        obtain ⟨g, o, rfl, hr⟩ := hsl2.resolve_left (fun e => by rw [e] at htl; simp at htl; omega)
        refine hQ w2 g o c ?_ hc0 hc1 (.inr ⟨g, o, rfl, by rw [hs]; exact reads_take hr _⟩) hR2 hg2 (hT1.grown hR1 hg2)
        rw [hz]
        exact hr (N - 1) (by omega)
      rw [← hz, ← hs]
      have HSL := Lib.hid hsl
      have HSO := Lib.hid hso
      have hwn : IntKind.i64.wrap ((N : Int) - 1) = ((N - 1 : Nat) : Int) := by rw [hn0]; exact IntWalk.i64_in _ (by omega)
      have i1 : (0 : Int) ≤ ((N - 1 : Nat) : Int) := by omega
      have i2 : ((N - 1 : Nat) : Int) < (N : Int) := by omega
      have hNle : N ≤ 65536 := by omega
      clear hR hR0 hte htl ht hot hz hs hsl hso hsh hfit hn0
      by_cases hzz : z ≠ 0
      · rw [if_pos hzz]
        have hzb : ((z : Int) != 0) = true := by simpa using hzz
        clear hzz
        refine ⟨fun e2 he => ?_, fun x r hx => by cases hx⟩
        injection he with he; subst he
        go_enter Tryd.func49, Tryd.ntmps49
        go_wp2_with fail
        refine HLEN.out _ ?_
        intro w1 hR1 hg1 hT1
        have HG1 := Lib.hid (grown_trans (grown_box _) hg1)
        have HF1 := Lib.hid ((Fresh.new w).grown hg1 hlt)
        have CT := Lib.hid (HTK.out w1 hR1 hT1)
        clear hR1 hg1 hT1
        go_wp2_with fail
        refine CT.out _ ?_
        intro w2 g o c hcz hc0 hc1 hs2 hR2 hg2 hT2
        have HG2 := Lib.hid (grown_trans HG1.out hg2)
        have HF2 := Lib.hid (HF1.out.grown hg2 hlt)
        have i3 : ((N - 1 : Nat) : Int) ≤ (c : Int) := by omega
        clear hs2 hR2 hg2 hT2
        go_wp2_with fail
        go_quiet (fail)
        obtain ⟨d0, f0⟩ := HF2.out.cells 0 _ rfl
        obtain ⟨d1, f1⟩ := HF2.out.cells 1 _ rfl
        obtain ⟨d2, f2⟩ := HF2.out.cells 2 _ rfl
        obtain ⟨d3, f3⟩ := HF2.out.cells 3 _ rfl
        obtain ⟨d4, f4⟩ := HF2.out.cells 4 _ rfl
        obtain ⟨d5, f5⟩ := HF2.out.cells 5 _ rfl
        go_wp2_with fail
        exact bodyPost_ret (v := .tuple #[zeroV, .int .i64 4]) (by simp [results, Tryd.results49, go_sem, zeroV, *]) rfl (fin_err (grown_trans HG2.out (grown_drewN _ _ gr)) _ _ _ _ _ _ rfl)
      · rw [if_neg hzz]
        obtain rfl : z = 0 := by omega
        clear hzz
        have HVAL : Hid (∀ (w2 : World) (g o c : Nat), N ≤ c → c ≤ 9223372036854775807 → SliceIs w2 (some ⟨g, o, none⟩) s → Rdr w2 gr ba bc b (k + 4 + N) → w.grownBy w2 (some gr) → Fresh w w2 → Tabs8 w2 → ∀ q, Calls Tryd.prog 62 #[.slice (some ⟨g, o, none⟩) (N - 1) c] (w2.drewN q) fun e w3 =>
            e = .returned (.bool (Bson.u8 (Bson.ofBytes s))) ∧ Rdr w3 gr ba bc b (k + 4 + N) ∧ w.grownBy w3 (some gr) ∧ Fresh w w3 ∧ SliceIs w3 (some ⟨g, o, none⟩) s) := by
          intro w2 g o c hc0 hc1 hs2 hR2 hg2 hF2 hT2 q
          have hd : Below w2.heap.size w2 (w2.drewN q) := Go.below_drewN (Below.refl _ _) q
          refine (valid_any (w2.drewN q) (some ⟨g, o, none⟩) (N - 1) c s HSL.out (by omega) hc1 HSO.out (hs2.keep hd) (hT2.keep hd)).mono ?_
          rintro e w3 ⟨rfl, hb⟩
          have hb2 : Below w2.heap.size w2 w3 := hd.trans hb
          exact ⟨rfl, hR2.keep hb2, grown_trans hg2 (grown_below hb2 gr), hF2.grown (grown_below hb2 gr) hlt, hs2.keep hb2⟩
        by_cases hu : Bson.u8 (Bson.ofBytes s) = false
        · rw [if_pos hu]
          rw [hu] at HVAL
          clear hu
          refine ⟨fun e2 he => ?_, fun x r hx => by cases hx⟩
          injection he with he; subst he
          go_enter Tryd.func49, Tryd.ntmps49
          go_wp2_with fail
          refine HLEN.out _ ?_
          intro w1 hR1 hg1 hT1
          have HG1 := Lib.hid (grown_trans (grown_box _) hg1)
          have HF1 := Lib.hid ((Fresh.new w).grown hg1 hlt)
          have CT := Lib.hid (HTK.out w1 hR1 hT1)
          clear hR1 hg1 hT1
          go_wp2_with fail
          refine CT.out _ ?_
          intro w2 g o c hcz hc0 hc1 hs2 hR2 hg2 hT2
          have CV := Lib.hid (HVAL.out w2 g o c hc0 hc1 hs2 hR2 (grown_trans HG1.out hg2) (HF1.out.grown hg2 hlt) hT2)
          have i3 : ((N - 1 : Nat) : Int) ≤ (c : Int) := by omega
          clear hs2 hR2 hg2 hT2
          go_wp2_with fail
          go_quiet (fail)
          go_wp2_with fail
          refine (CV.out _).mono ?_
          rintro e w3 ⟨rfl, hR3, hg3, hF3, hs3⟩
          have HG3 := Lib.hid hg3
          have HF3 := Lib.hid hF3
          clear hR3 hg3 hF3 hs3
          obtain ⟨d0, f0⟩ := HF3.out.cells 0 _ rfl
          obtain ⟨d1, f1⟩ := HF3.out.cells 1 _ rfl
          obtain ⟨d2, f2⟩ := HF3.out.cells 2 _ rfl
          obtain ⟨d3, f3⟩ := HF3.out.cells 3 _ rfl
          obtain ⟨d4, f4⟩ := HF3.out.cells 4 _ rfl
          obtain ⟨d5, f5⟩ := HF3.out.cells 5 _ rfl
          go_wp2_with fail
          exact bodyPost_ret (v := .tuple #[zeroV, .int .i64 5]) (by simp [results, Tryd.results49, go_sem, zeroV, *]) rfl (fin_err HG3.out _ _ _ _ _ _ rfl)
        · have hu' : Bson.u8 (Bson.ofBytes s) = true := by simpa using hu
          rw [if_neg hu]
          rw [hu'] at HVAL
          clear hu hu'
          refine ⟨fun e he => (by cases he), fun x r hx => ?_⟩
          injection hx with e1 e2
          subst e1; subst e2
          go_enter Tryd.func49, Tryd.ntmps49
          go_wp2_with fail
          refine HLEN.out _ ?_
          intro w1 hR1 hg1 hT1
          have HG1 := Lib.hid (grown_trans (grown_box _) hg1)
          have HF1 := Lib.hid ((Fresh.new w).grown hg1 hlt)
          have CT := Lib.hid (HTK.out w1 hR1 hT1)
          clear hR1 hg1 hT1
          go_wp2_with fail
          refine CT.out _ ?_
          intro w2 g o c hcz hc0 hc1 hs2 hR2 hg2 hT2
          have CV := Lib.hid (HVAL.out w2 g o c hc0 hc1 hs2 hR2 (grown_trans HG1.out hg2) (HF1.out.grown hg2 hlt) hT2)
          have i3 : ((N - 1 : Nat) : Int) ≤ (c : Int) := by omega
          clear hs2 hR2 hg2 hT2
          go_wp2_with fail
          go_quiet (fail)
          go_wp2_with fail
          refine (CV.out _).mono ?_
          rintro e w3 ⟨rfl, hR3, hg3, hF3, hs3⟩
          have HG3 := Lib.hid hg3
          have HF3 := Lib.hid hF3
          have HR3 := Lib.hid hR3
          have hcv := conv_str w3 (some ⟨g, o, none⟩) (N - 1) c s HSL.out hs3
          clear hR3 hg3 hF3 hs3
          obtain ⟨d0, f0⟩ := HF3.out.cells 0 _ rfl
          obtain ⟨d1, f1⟩ := HF3.out.cells 1 _ rfl
          obtain ⟨d2, f2⟩ := HF3.out.cells 2 _ rfl
          obtain ⟨d3, f3⟩ := HF3.out.cells 3 _ rfl
          obtain ⟨d4, f4⟩ := HF3.out.cells 4 _ rfl
          obtain ⟨d5, f5⟩ := HF3.out.cells 5 _ rfl
          go_wp2_with fail
          exact bodyPost_ret (v := .tuple #[.agg #[.int .i64 5, .int .i64 0, .string (strB s), .slice none 0 0, .slice none 0 0, .slice none 0 0], .int .i64 0]) (by simp [results, Tryd.results49, go_sem, *]) rfl (fin_ok hlt HF3.out HR3.out HG3.out _ _ _ _ _ _ (vin_flat _ _ 5 0 (strB s) (by decide) (by decide) (by decide) (by decide) (by show (Bson.ofBytes s).size ≤ _; rw [ofBytes_size, HSL.out]; omega)) rfl)
end Go.Proofs.YtdihelpimpkfoaaDoor
end
