/- BsonValid. -/
import Derived.Test.YtdihelpimpkfoaaDoorMg15
set_option maxRecDepth 100000
section
namespace Go.Proofs.YtdihelpimpkfoaaDoor
open Go.RowKit
open Seal
/-- The two tables of unicode/utf8, as they lie in memory. -/
structure Tabs8 (w : World) : Prop where
  first : ∀ c, c < 256 → w.cell? ⟨0, c, none⟩ = some (.int .u8 ((Lib.firstT c : Nat) : Int))
  lo : ∀ i, i < 16 → w.cell? ⟨1, i * 2, none⟩ = some (.int .u8 ((Lib.accLo i : Nat) : Int))
  hi : ∀ i, i < 16 → w.cell? ⟨1, i * 2 + 1, none⟩ = some (.int .u8 ((Lib.accHi i : Nat) : Int))
theorem Tabs8.keep {w w' : World} (h : Tabs8 w) (hb : Below w.heap.size w w') : Tabs8 w' :=
  ⟨fun c hc => (hb.cell (World.block_lt_of_cell? w _ (h.first c hc))).trans (h.first c hc), fun i hi => (hb.cell (World.block_lt_of_cell? w _ (h.lo i hi))).trans (h.lo i hi), fun i hi => (hb.cell (World.block_lt_of_cell? w _ (h.hi i hi))).trans (h.hi i hi)⟩
def vlen : Value → Nat
  | .slice _ n _ => n
  | _ => 0
theorem U_drop (l : List Nat) (k : Nat) : U (l.drop k) = (U l).drop k := by unfold U; rw [List.map_drop]
theorem U_take (l : List Nat) (k : Nat) : U (l.take k) = (U l).take k := by unfold U; rw [List.map_take]
theorem octDrop {l : List Nat} (h : Oct l) (k : Nat) : Oct (l.drop k) := fun c hc => h c (List.mem_of_mem_drop hc)
theorem octTake {l : List Nat} (h : Oct l) (k : Nat) : Oct (l.take k) := fun c hc => h c (List.mem_of_mem_take hc)
/-- Bytes below 128 may be passed over. -/
theorem skip_asc (l : List Nat) (h : Oct l) (k : Nat) (ha : ∀ c ∈ l.take k, c < 128) : Lib.validD (U (l.drop k)) = Lib.validD (U l) := by
  rw [U_drop]
  refine (Lib.validD_ascii k (U l) ?_).symm
  rw [← U_take]
  exact (asc_U _ (octTake h k)).2 ha
theorem hd_lt (l : List Nat) (h : Oct l) (j : Nat) : l.getD j 0 < 256 := by
  rw [List.getD_eq_getElem?_getD]
  by_cases hj : j < l.length
  · rw [List.getElem?_eq_getElem hj]; exact h _ (List.getElem_mem hj)
  · rw [List.getElem?_eq_none (by omega)]; decide
theorem reads_drop {w : World} {g o : Nat} {l : List Nat} (h : Reads w g o l) (k : Nat) : Reads w g (o + k) (l.drop k) := by
  intro j hj
  have h1 := h (k + j) (by simp at hj; omega)
  rw [Nat.add_assoc, h1]
  simp [List.getD_eq_getElem?_getD]
/-- What is left of the bytes, and where it lies. -/
structure St8 (w0 wr : World) (ANS : Bool) (g o m : Nat) (r : List Nat) : Prop where
  len : r.length = m
  oct : Oct r
  rd : Reads wr g o r
  val : Lib.validD (U r) = ANS
  bel : Below w0.heap.size w0 wr
theorem St8.skip {w0 wr : World} {ANS : Bool} {g o m : Nat} {r : List Nat} (h : St8 w0 wr ANS g o m r) (k : Nat) (ha : ∀ c ∈ r.take k, c < 128) {m' : Nat} (hm : m = m' + k) : St8 w0 wr ANS g (o + k) m' (r.drop k) :=
  ⟨by rw [List.length_drop, h.len]; omega, octDrop h.oct k, reads_drop h.rd k, (skip_asc r h.oct k ha).trans h.val, h.bel⟩
theorem St8.world {w0 wr w2 : World} {ANS : Bool} {g o m : Nat} {r : List Nat} (h : St8 w0 wr ANS g o m r) (n : Nat) (he : w2 = wr.drewN n) : St8 w0 w2 ANS g o m r := by
  subst he
  exact ⟨h.len, h.oct, h.rd.drewN n, h.val, Go.below_drewN h.bel n⟩
/-- Eight bytes of what is left, as a number. -/
theorem St8.word {w0 wr : World} {ANS : Bool} {g o m : Nat} {r : List Nat} (h : St8 w0 wr ANS g o m r) (k : Nat) (hk : k + 8 ≤ m) (hm : m ≤ 9223372036854775807) : ∃ A : Nat, A < 18446744073709551616 ∧ (A &&& 9259542123273814144 = 0 ↔ ∀ c ∈ (r.drop k).take 8, c < 128) ∧
    ∀ n, Calls Tryd.prog 69 #[.slice (some ⟨g, o + k, none⟩) (m - k) (m - k)] (wr.drewN n) fun e w' => e = .returned (.int .u64 (A : Int)) ∧ ∃ q, w' = (wr.drewN n).drewN q := by
  have h8 : ((r.drop k).take 8).length = 8 := by rw [List.length_take, List.length_drop, h.len]; omega
  have hd : (r.drop k).length = m - k := by rw [List.length_drop, h.len]
  exact ⟨_, leN8_lt _ (octTake (octDrop h.oct k) 8) h8, leN_mask _ (octTake (octDrop h.oct k) 8) h8, fun n => word_any _ _ (m - k) (m - k) (r.drop k) hd (by omega) (by omega) (octDrop h.oct k) (.inr ⟨g, o + k, rfl, (reads_drop h.rd k).drewN n⟩)⟩
theorem take_split (r : List Nat) (a b : Nat) (h1 : ∀ c ∈ r.take a, c < 128) (h2 : ∀ c ∈ (r.drop a).take b, c < 128) : ∀ c ∈ r.take (a + b), c < 128 := by
  intro c hc
  rw [List.take_add] at hc
  rcases List.mem_append.1 hc with h | h
  · exact h1 c h
  · exact h2 c h
theorem and7 : ∀ c : Fin 256, 128 ≤ c.val → bits .and .u8 ((Lib.firstT c.val : Nat) : Int) 7 = ((Lib.firstT c.val % 8 : Nat) : Int) ∧ (Lib.firstT c.val % 8 = 1 ∨ Lib.firstT c.val % 8 = 2 ∨ Lib.firstT c.val % 8 = 3 ∨ Lib.firstT c.val % 8 = 4) ∧ Lib.firstT c.val < 256 := by decide +kernel
theorem acc_lt : ∀ i : Fin 16, Lib.accLo i.val < 256 ∧ Lib.accHi i.val < 256 := by decide
/-- What the tables say of a byte from 128 on. -/
theorem lead_key (r : List Nat) (ho : Oct r) {m : Nat} (hr : r.length = m + 1) (h128 : 128 ≤ r.getD 0 0) : ∃ FT sz ix : Nat, FT = Lib.firstT (r.getD 0 0) ∧ FT < 256 ∧ ix < 16 ∧ bits .and .u8 (FT : Int) 7 = (sz : Int) ∧ (FT : Int) / 16 = (ix : Int) ∧ (sz = 1 ∨ sz = 2 ∨ sz = 3 ∨ sz = 4) ∧
    Lib.validD (U r) = match Lib.checkN (m + 1) (r.getD 1 0) (r.getD 2 0) (r.getD 3 0) sz (Lib.accLo ix) (Lib.accHi ix) with
      | none => false
      | some k => Lib.validD (U (r.drop k)) := by
  have hg : ∀ j, ((U r).getD j 0).toNat = r.getD j 0 := fun j => by
    have h1 := hd_lt r ho j
    by_cases hj : j < r.length
    · have e1 : r.getD j 0 = r[j] := by rw [List.getD_eq_getElem?_getD, List.getElem?_eq_getElem hj]; rfl
      have e2 : (U r).getD j 0 = UInt8.ofNat r[j] := by simp [U, List.getD_eq_getElem?_getD, List.getElem?_eq_getElem hj]
      rw [e1] at h1
      rw [e1, e2]
      simp [Nat.mod_eq_of_lt h1]
    · have e1 : r.getD j 0 = 0 := by rw [List.getD_eq_getElem?_getD, List.getElem?_eq_none (by omega)]; rfl
      have e2 : (U r).getD j 0 = 0 := by rw [List.getD_eq_getElem?_getD, List.getElem?_eq_none (by simp [U]; omega)]; rfl
      rw [e1, e2]; rfl
  have hne : U r ≠ [] := by intro e; have := congrArg List.length e; simp [U, hr] at this
  have h := Lib.validD_lead (U r) hne (by rw [hg]; exact h128)
  rw [hg, hg, hg, hg, show (U r).length = m + 1 by simp [U, hr]] at h
  obtain ⟨k1, k2, k3⟩ := and7 ⟨r.getD 0 0, hd_lt r ho 0⟩ h128
  simp only at k1 k2 k3
  refine ⟨_, _, Lib.firstT (r.getD 0 0) / 16, rfl, k3, by omega, k1, by omega, k2, ?_⟩
  rw [h]
  cases Lib.checkN (m + 1) (r.getD 1 0) (r.getD 2 0) (r.getD 3 0) (Lib.firstT (r.getD 0 0) % 8) (Lib.accLo (Lib.firstT (r.getD 0 0) / 16)) (Lib.accHi (Lib.firstT (r.getD 0 0) / 16)) with
  | none => rfl
  | some k => simp only [U_drop]
theorem below_box {B : Nat} {a w : World} (h : Below B a w) (hz : B ≤ w.heap.size) (o : Obj) (n : Nat) : Below B a ((w.alloc o).drewN n) := Go.below_drewN (h.alloc hz o) n
theorem reads_box {w : World} {g o : Nat} {l : List Nat} (h : Reads w g o l) (b : Obj) (n : Nat) : Reads ((w.alloc b).drewN n) g o l := (h.keep ((Below.refl _ w).alloc (Nat.le_refl _) b)).drewN n
set_option maxRecDepth 100000 in
set_option maxHeartbeats 20000000 in
theorem valid_any (w : World) (a : Option Addr) (n c : Nat) (l : List Nat) (hl : l.length = n) (hc : n ≤ c) (hc2 : c ≤ 9223372036854775807) (ho : Oct l) (hs : SliceIs w a l) (hT : Tabs8 w) :
    Calls Tryd.prog 62 #[.slice a n c] w fun e w' => e = .returned (.bool (Lib.validD (U l))) ∧ Below w.heap.size w w' := by
  obtain ⟨ANS, hA⟩ : ∃ ANS, ANS = Lib.validD (U l) := ⟨_, rfl⟩
  rw [← hA]
  have HA := Lib.hid hA
  have HL := Lib.hid hl
  have HO := Lib.hid ho
  have HS := Lib.hid hs
  have HT := Lib.hid hT
  clear hA hl ho hs hT
  go_enter Tryd.func62, Tryd.ntmps62
  go_wp2_with fail
  go_loopw [0] (fun s wr => ∃ (b : Option Addr) (m : Nat) (r : List Nat), s = .slice b m m ∧ m ≤ 9223372036854775807 ∧ Hid (r.length = m) ∧ Hid (Oct r) ∧ Hid (SliceIs wr b r) ∧ Hid (Lib.validD (U r) = ANS) ∧ Hid (Below w.heap.size w wr)) (fun s _ => vlen s)
  case atStart => exact ⟨_, _, l, rfl, by omega, HL.out, HO.out, HS.out, HA.out.symm, Below.refl _ _⟩
  case round =>
    obtain ⟨b, m, r, rfl, hm, hr, hor, hsr, hv, hB⟩ := hrel
    by_cases h0 : 0 < m
    · obtain ⟨m, rfl⟩ : ∃ k, m = k + 1 := ⟨m - 1, by omega⟩
      obtain ⟨g, o, rfl, hrd⟩ := hsr.out.resolve_left (fun e => by have := hr.out; rw [e] at this; simp at this)
      have hb0 := hd_lt r hor.out 0
      have k0 : wr.cell? ⟨g, o, none⟩ = some (.int .u8 ((r.getD 0 0 : Nat) : Int)) := hrd 0 (by rw [hr.out]; omega)
      obtain ⟨b0, hb⟩ : ∃ b0, b0 = r.getD 0 0 := ⟨_, rfl⟩
      rw [← hb] at hb0 k0
      have HB0 := Lib.hid hb
      have HRD := Lib.hid hrd
      clear hb hrd
      by_cases hasc : b0 < 128
      · as_aux_lemma =>
          have hai : (b0 : Int) < 128 := by omega
          have hsk : ∀ c ∈ r.take 1, c < 128 := by
            intro c hc
            have e1 : r.take 1 = [r.getD 0 0] := by
              match r, hr.out with
              | x :: _, _ => rfl
            rw [e1] at hc
            simp only [List.mem_singleton] at hc
            rw [hc, ← HB0.out]; exact hasc
          have hst : St8 w wr ANS g o (m + 1) r := ⟨hr.out, hor.out, HRD.out, hv.out, hB.out⟩
          have HS1 := Lib.hid (hst.skip 1 hsk (m' := m) rfl)
          clear hsk hv hor HB0 hst HRD hsr hr hB
          generalize r.drop 1 = r1 at *
          by_cases hm0 : m = 0
          · subst hm0
            go_wp2_with fail
            go_roundw
            case rel => exact ⟨_, 0, r1, rfl, by omega, HS1.out.len, HS1.out.oct, .inl (List.eq_nil_of_length_eq_zero HS1.out.len), HS1.out.val, HS1.out.bel⟩
            case measure => simp [vlen]
          · have hm1 : ¬ m + 1 = 1 := by omega
            by_cases h8 : 8 < m
            · as_aux_lemma =>
                have h8z : (8 : Int) < (m : Int) := by omega
                obtain ⟨A, hAl, hAm, hAc⟩ := HS1.out.word 0 (by omega) (by omega)
                have HW := Lib.hid (show Calls Tryd.prog 69 #[.slice (some ⟨g, o + 1, none⟩) m m] wr fun e w' => e = .returned (.int .u64 (A : Int)) ∧ ∃ q, w' = wr.drewN q from hAc 0)
                have hand : bits .and .u64 (A : Int) 9259542123273814144 = ((A &&& 9259542123273814144 : Nat) : Int) := u64_and_nat A _ hAl (by decide)
                obtain ⟨Z, hZ⟩ : ∃ Z, Z = A &&& 9259542123273814144 := ⟨_, rfl⟩
                rw [← hZ] at hAm hand
                have HM := Lib.hid hAm
                clear hAm hZ hAl hAc
                by_cases hz : Z = 0
                · as_aux_lemma =>
                    have hzb : ((Z : Int) == 0) = true := by simpa using hz
                    obtain ⟨m, rfl⟩ : ∃ k, m = k + 8 := ⟨m - 8, by omega⟩
                    have HS2 := Lib.hid (HS1.out.skip 8 (by have := HM.out.1 hz; simpa using this) (m' := m) rfl)
                    clear hz HM HS1
                    generalize r1.drop 8 = r2 at *
                    have hm8 : ¬ m + 8 = 8 := by omega
                    go_wp2_with fail
                    refine HW.out.mono ?_
                    rintro e w2 ⟨rfl, q, hq⟩
                    have HS3 := Lib.hid (HS2.out.world q hq)
                    clear hq HS2
                    by_cases h16 : 16 < m
                    · as_aux_lemma =>
                        have h16z : (16 : Int) < (m : Int) := by omega
                        obtain ⟨A2, hA2l, hA2m, hA2c⟩ := HS3.out.word 0 (by omega) (by omega)
                        obtain ⟨A3, hA3l, hA3m, hA3c⟩ := HS3.out.word 8 (by omega) (by omega)
                        have C1 := Lib.hid (show ∀ n, Calls Tryd.prog 69 #[.slice (some ⟨g, o + 1 + 8, none⟩) m m] (w2.drewN n) fun e w' => e = .returned (.int .u64 (A2 : Int)) ∧ ∃ q, w' = (w2.drewN n).drewN q from hA2c)
                        have C2 := Lib.hid hA3c
                        have hor : bits .or .u64 (A2 : Int) (A3 : Int) = ((A2 ||| A3 : Nat) : Int) := u64_or_nat A2 A3 hA2l hA3l
                        have hand : bits .and .u64 ((A2 ||| A3 : Nat) : Int) 9259542123273814144 = (((A2 ||| A3) &&& 9259542123273814144 : Nat) : Int) := u64_and_nat _ _ (Nat.or_lt_two_pow (n := 64) hA2l hA3l) (by decide)
                        have hmk : (A2 ||| A3) &&& 9259542123273814144 = 0 → ∀ c ∈ r2.take 16, c < 128 := fun h => by
                          obtain ⟨e1, e2⟩ := (Lib.or_mask A2 A3 _).1 h
                          exact take_split r2 8 8 (by have := hA2m.1 e1; simpa using this) (hA3m.1 e2)
                        obtain ⟨O, hO⟩ : ∃ O, O = A2 ||| A3 := ⟨_, rfl⟩
                        rw [← hO] at hor hand hmk
                        obtain ⟨Z2, hZ2⟩ : ∃ Z, Z = O &&& 9259542123273814144 := ⟨_, rfl⟩
                        rw [← hZ2] at hand hmk
                        have HM2 := Lib.hid hmk
                        have hm8 : ¬ m = 8 := by omega
                        have h8m : (8 : Int) ≤ (m : Int) := by omega
                        clear hmk hO hZ2 hA2l hA2m hA2c hA3l hA3m hA3c
                        by_cases hz2 : Z2 = 0
                        · as_aux_lemma =>
                            have hz2b : ((Z2 : Int) == 0) = true := by simpa using hz2
                            have HS4 := Lib.hid (HS3.out.skip 16 (HM2.out hz2) (m' := m - 16) (by omega))
                            clear hz2
                            go_wp2_with fail
                            refine wp_region_quiet_lit (by kernel_rfl) (by kernel_rfl) ?_
                            repeat (quiet_step (fail))
                            refine wpQuiet_step (fun K hK => ?_)
                            go_simp
                            refine ⟨_, fun _ => Calls.quiet_of (C1.out _), hK _ ?_⟩
                            clear hK K
                            repeat (quiet_step (fail))
                            refine wpQuiet_step (fun K hK => ?_)
                            go_simp
                            refine ⟨_, fun _ => Calls.quiet_of (C2.out _), hK _ ?_⟩
                            clear hK K
                            repeat (quiet_step (fail))
                            refine wpQuiet_nil ?_
                            intro w3 hw'
                            obtain ⟨nr, hw''⟩ := hw'
                            have HS5 := Lib.hid (HS4.out.world nr hw'')
                            clear hw'' HS4 HM2 C1 C2
                            go_wp2_with fail
                            obtain ⟨wo, hwo⟩ : ∃ wo, wo = wr := ⟨_, rfl⟩
                            clear hwo
                            go_loopw [0] (fun s wx => ∃ (y p : Nat) (q : List Nat), s = .slice (some ⟨g, y, none⟩) p p ∧ 1 ≤ p ∧ p ≤ m ∧ Hid (St8 w wx ANS g y p q)) (fun s _ => vlen s)
                            case atStart => exact ⟨_, m - 16, _, rfl, by omega, by omega, HS5⟩
                            case round =>
                              obtain ⟨y, p, t, rfl, hp1, hpm, hst⟩ := hrel
                              by_cases h32 : 32 < p
                              · as_aux_lemma =>
                                  have h32z : (32 : Int) < (p : Int) := by omega
                                  obtain ⟨E1, e1l, e1m, e1c⟩ := hst.out.word 0 (by omega) (by omega)
                                  obtain ⟨E2, e2l, e2m, e2c⟩ := hst.out.word 8 (by omega) (by omega)
                                  obtain ⟨E3, e3l, e3m, e3c⟩ := hst.out.word 16 (by omega) (by omega)
                                  obtain ⟨E4, e4l, e4m, e4c⟩ := hst.out.word 24 (by omega) (by omega)
                                  have D1 := Lib.hid (show ∀ n, Calls Tryd.prog 69 #[.slice (some ⟨g, y, none⟩) p p] (wr.drewN n) fun e w' => e = .returned (.int .u64 (E1 : Int)) ∧ ∃ q, w' = (wr.drewN n).drewN q from e1c)
                                  have D2 := Lib.hid e2c
                                  have D3 := Lib.hid e3c
                                  have D4 := Lib.hid e4c
                                  have g1 : bits .or .u64 (E1 : Int) (E2 : Int) = ((E1 ||| E2 : Nat) : Int) := u64_or_nat E1 E2 e1l e2l
                                  have g2 : bits .or .u64 (E3 : Int) (E4 : Int) = ((E3 ||| E4 : Nat) : Int) := u64_or_nat E3 E4 e3l e4l
                                  have l12 : E1 ||| E2 < 18446744073709551616 := Nat.or_lt_two_pow (n := 64) e1l e2l
                                  have l34 : E3 ||| E4 < 18446744073709551616 := Nat.or_lt_two_pow (n := 64) e3l e4l
                                  have g3 : bits .or .u64 ((E1 ||| E2 : Nat) : Int) ((E3 ||| E4 : Nat) : Int) = (((E1 ||| E2) ||| (E3 ||| E4) : Nat) : Int) := u64_or_nat _ _ l12 l34
                                  have g4 : bits .and .u64 (((E1 ||| E2) ||| (E3 ||| E4) : Nat) : Int) 9259542123273814144 = ((((E1 ||| E2) ||| (E3 ||| E4)) &&& 9259542123273814144 : Nat) : Int) := u64_and_nat _ _ (Nat.or_lt_two_pow (n := 64) l12 l34) (by decide)
                                  have hmk : ((E1 ||| E2) ||| (E3 ||| E4)) &&& 9259542123273814144 = 0 → ∀ c ∈ t.take 32, c < 128 := fun h => by
                                    obtain ⟨a12, a34⟩ := (Lib.or_mask _ _ _).1 h
                                    obtain ⟨a1, a2⟩ := (Lib.or_mask E1 E2 _).1 a12
                                    obtain ⟨a3, a4⟩ := (Lib.or_mask E3 E4 _).1 a34
                                    have b1 := e1m.1 a1
                                    rw [List.drop_zero] at b1
                                    exact take_split t 24 8 (take_split t 16 8 (take_split t 8 8 b1 (e2m.1 a2)) (e3m.1 a3)) (e4m.1 a4)
                                  obtain ⟨F1, hF1⟩ : ∃ F, F = E1 ||| E2 := ⟨_, rfl⟩
                                  obtain ⟨F2, hF2⟩ : ∃ F, F = E3 ||| E4 := ⟨_, rfl⟩
                                  rw [← hF1, ← hF2] at g3 g4 hmk
                                  rw [← hF1] at g1
                                  rw [← hF2] at g2
                                  obtain ⟨F3, hF3⟩ : ∃ F, F = F1 ||| F2 := ⟨_, rfl⟩
                                  rw [← hF3] at g3 g4 hmk
                                  obtain ⟨Z3, hZ3⟩ : ∃ Z, Z = F3 &&& 9259542123273814144 := ⟨_, rfl⟩
                                  rw [← hZ3] at g4 hmk
                                  have HM3 := Lib.hid hmk
                                  have q8 : ¬ p = 8 := by omega
                                  have q16 : ¬ p = 16 := by omega
                                  have q24 : ¬ p = 24 := by omega
                                  have q32 : ¬ p = 32 := by omega
                                  have r8 : (8 : Int) ≤ (p : Int) := by omega
                                  have r16 : (16 : Int) ≤ (p : Int) := by omega
                                  have r24 : (24 : Int) ≤ (p : Int) := by omega
                                  clear hmk hF1 hF2 hF3 hZ3 e1l e1m e1c e2l e2m e2c e3l e3m e3c e4l e4m e4c l12 l34
                                  by_cases hz3 : Z3 = 0
                                  · as_aux_lemma =>
                                      have hz3b : ((Z3 : Int) == 0) = true := by simpa using hz3
                                      have HS6 := Lib.hid (hst.out.skip 32 (HM3.out hz3) (m' := p - 32) (by omega))
                                      clear hz3
                                      go_wp2_with fail
                                      refine wp_region_quiet_lit (by kernel_rfl) (by kernel_rfl) ?_
                                      repeat (quiet_step (fail))
                                      refine wpQuiet_step (fun K hK => ?_)
                                      go_simp
                                      refine ⟨_, fun _ => Calls.quiet_of (D1.out _), hK _ ?_⟩
                                      clear hK K
                                      repeat (quiet_step (fail))
                                      refine wpQuiet_step (fun K hK => ?_)
                                      go_simp
                                      refine ⟨_, fun _ => Calls.quiet_of (D2.out _), hK _ ?_⟩
                                      clear hK K
                                      repeat (quiet_step (fail))
                                      refine wpQuiet_step (fun K hK => ?_)
                                      go_simp
                                      refine ⟨_, fun _ => Calls.quiet_of (D3.out _), hK _ ?_⟩
                                      clear hK K
                                      repeat (quiet_step (fail))
                                      refine wpQuiet_step (fun K hK => ?_)
                                      go_simp
                                      refine ⟨_, fun _ => Calls.quiet_of (D4.out _), hK _ ?_⟩
                                      clear hK K
                                      repeat (quiet_step (fail))
                                      refine wpQuiet_nil ?_
                                      intro w4 hw'
                                      obtain ⟨nr, hw''⟩ := hw'
                                      have HS7 := Lib.hid (HS6.out.world nr hw'')
                                      clear hw'' HS6 HM3 D1 D2 D3 D4
                                      go_wp2_with fail
                                      go_roundw
                                      case rel => exact ⟨_, p - 32, _, rfl, by omega, by omega, HS7⟩
                                      case measure => simp [vlen]; omega
                                  · as_aux_lemma =>
                                      have hz3b : ((Z3 : Int) == 0) = false := by simpa using hz3
                                      clear hz3 HM3
                                      go_wp2_with fail
                                      refine wp_region_quiet_lit (by kernel_rfl) (by kernel_rfl) ?_
                                      repeat (quiet_step (fail))
                                      refine wpQuiet_step (fun K hK => ?_)
                                      go_simp
                                      refine ⟨_, fun _ => Calls.quiet_of (D1.out _), hK _ ?_⟩
                                      clear hK K
                                      repeat (quiet_step (fail))
                                      refine wpQuiet_step (fun K hK => ?_)
                                      go_simp
                                      refine ⟨_, fun _ => Calls.quiet_of (D2.out _), hK _ ?_⟩
                                      clear hK K
                                      repeat (quiet_step (fail))
                                      refine wpQuiet_step (fun K hK => ?_)
                                      go_simp
                                      refine ⟨_, fun _ => Calls.quiet_of (D3.out _), hK _ ?_⟩
                                      clear hK K
                                      repeat (quiet_step (fail))
                                      refine wpQuiet_step (fun K hK => ?_)
                                      go_simp
                                      refine ⟨_, fun _ => Calls.quiet_of (D4.out _), hK _ ?_⟩
                                      clear hK K
                                      repeat (quiet_step (fail))
                                      refine wpQuiet_nil ?_
                                      intro w4 hw'
                                      obtain ⟨nr, hw''⟩ := hw'
                                      have HS7 := Lib.hid (hst.out.world nr hw'')
                                      clear hw'' D1 D2 D3 D4
                                      go_wp2_with fail
                                      go_roundw
                                      case rel => exact ⟨_, p, _, rfl, by omega, HS7.out.len, HS7.out.oct, .inr ⟨g, _, rfl, HS7.out.rd⟩, HS7.out.val, HS7.out.bel⟩
                                      case measure => simp [vlen]; omega
                              · have h32z : decide ((32 : Int) < (p : Int)) = false := by simp; omega
                                go_wp2_with fail
                                go_quiet (fail)
                                go_wp2_with fail
                                go_roundw
                                case rel => exact ⟨_, p, _, rfl, by omega, hst.out.len, hst.out.oct, .inr ⟨g, _, rfl, hst.out.rd.drewN _⟩, hst.out.val, Go.below_drewN hst.out.bel _⟩
                                case measure => simp [vlen]; omega
                        · as_aux_lemma =>
                            have hz2b : ((Z2 : Int) == 0) = false := by simpa using hz2
                            clear hz2 HM2
                            go_wp2_with fail
                            refine wp_region_quiet_lit (by kernel_rfl) (by kernel_rfl) ?_
                            repeat (quiet_step (fail))
                            refine wpQuiet_step (fun K hK => ?_)
                            go_simp
                            refine ⟨_, fun _ => Calls.quiet_of (C1.out _), hK _ ?_⟩
                            clear hK K
                            repeat (quiet_step (fail))
                            refine wpQuiet_step (fun K hK => ?_)
                            go_simp
                            refine ⟨_, fun _ => Calls.quiet_of (C2.out _), hK _ ?_⟩
                            clear hK K
                            repeat (quiet_step (fail))
                            refine wpQuiet_nil ?_
                            intro w3 hw'
                            obtain ⟨nr, hw''⟩ := hw'
                            have HS5 := Lib.hid (HS3.out.world nr hw'')
                            clear hw'' C1 C2
                            go_wp2_with fail
                            go_roundw
                            case rel => exact ⟨_, m, r2, rfl, by omega, HS5.out.len, HS5.out.oct, .inr ⟨g, o + 1 + 8, rfl, HS5.out.rd⟩, HS5.out.val, HS5.out.bel⟩
                            case measure => simp [vlen]; omega
                    · have h16z : decide ((16 : Int) < (m : Int)) = false := by simp; omega
                      go_wp2_with fail
                      go_quiet (fail)
                      go_wp2_with fail
                      go_roundw
                      case rel => exact ⟨_, m, r2, rfl, by omega, HS3.out.len, HS3.out.oct, .inr ⟨g, _, rfl, HS3.out.rd.drewN _⟩, HS3.out.val, Go.below_drewN HS3.out.bel _⟩
                      case measure => simp [vlen]; omega
                · have hzb : ((Z : Int) == 0) = false := by simpa using hz
                  go_wp2_with fail
                  refine HW.out.mono ?_
                  rintro e w' ⟨rfl, q, hq⟩
                  have HS2 := Lib.hid (HS1.out.world q hq)
                  clear hq
                  go_wp2_with fail
                  go_roundw
                  case rel => exact ⟨_, m, r1, rfl, by omega, HS2.out.len, HS2.out.oct, .inr ⟨g, o + 1, rfl, HS2.out.rd⟩, HS2.out.val, HS2.out.bel⟩
                  case measure => simp [vlen]
            · have h8' : ¬ (8 : Int) < (m : Int) := by omega
              go_wp2_with fail
              go_roundw
              case rel => exact ⟨_, m, r1, rfl, by omega, HS1.out.len, HS1.out.oct, .inr ⟨g, o + 1, rfl, HS1.out.rd⟩, HS1.out.val, HS1.out.bel⟩
              case measure => simp [vlen]
      · as_aux_lemma =>
          have hai : ¬ (b0 : Int) < 128 := by omega
          obtain ⟨FT, sz, ix, hFe, hF, hix, hand, hsh, hsz, hval⟩ := lead_key r hor.out hr.out (by rw [← HB0.out]; omega)
          have hTw := HT.out.keep hB.out
          have t0 := hTw.first b0 hb0
          rw [HB0.out, ← hFe, ← HB0.out] at t0
          have tlo := hTw.lo ix hix
          have thi := hTw.hi ix hix
          obtain ⟨lo, hlo⟩ : ∃ lo, lo = Lib.accLo ix := ⟨_, rfl⟩
          obtain ⟨hi, hhi⟩ : ∃ hi, hi = Lib.accHi ix := ⟨_, rfl⟩
          rw [← hlo] at tlo hval
          rw [← hhi] at thi hval
          rw [hv.out] at hval
          have hbi : (b0 : Int) < 256 := by omega
          have hgl : g < wr.heap.size := World.block_lt_of_cell? wr _ k0
          have hst : St8 w wr ANS g o (m + 1) r := ⟨hr.out, hor.out, HRD.out, hv.out, hB.out⟩
          have HST := Lib.hid hst
          have HVAL := Lib.hid hval
          clear hFe hlo hhi hval hTw hst hv hB hsr hor
          rcases hsz with rfl | rfl | rfl | rfl
          · as_aux_lemma =>
              have hF : ANS = false := by rw [HVAL.out]; rfl
              have HF := Lib.hid hF
              clear hF HVAL
              go_wp2_with fail
              go_ret
              exact ⟨ret_eq (by rw [HF.out]; rfl), HST.out.bel.alloc HST.out.bel.size _⟩
          · as_aux_lemma =>
              by_cases hlen : m + 1 < 2
              · have hF : ANS = false := by rw [HVAL.out]; unfold Lib.checkN; simp [hlen]
                have hlz : (m : Int) + 1 < 2 := by omega
                have HF := Lib.hid hF
                clear hF HVAL
                go_wp2_with fail
                go_quiet (fail)
                go_wp2_with fail
                go_ret
                exact ⟨ret_eq (by rw [HF.out]; rfl), below_box HST.out.bel HST.out.bel.size _ _⟩
              · have hlz : decide ((m : Int) + 1 < 2) = false := by simp; omega
                have c1 : wr.cell? ⟨g, o + 1, none⟩ = some (.int .u8 ((r.getD 1 0 : Nat) : Int)) := HST.out.rd 1 (by rw [HST.out.len]; omega)
                have l1 := hd_lt r HST.out.oct 1
                have i1 : (1 : Int) < (m : Int) + 1 := by omega
                generalize r.getD 1 0 = b1 at *
                by_cases p0 : b1 < lo
                · have hF : ANS = false := by rw [HVAL.out]; unfold Lib.checkN; simp [hlen, p0]
                  have z0 : (b1 : Int) < (lo : Int) := by omega
                  have y0 : b1 < lo := by omega
                  have HF := Lib.hid hF
                  clear hF HVAL
                  go_wp2_with fail
                  go_quiet (fail)
                  go_wp2_with fail
                  go_ret
                  exact ⟨ret_eq (by rw [HF.out]; rfl), below_box HST.out.bel HST.out.bel.size _ _⟩
                have z0 : decide ((b1 : Int) < (lo : Int)) = false := by simp; omega
                have y0 : decide (b1 < lo) = false := by simp; omega
                by_cases p1 : hi < b1
                · have hF : ANS = false := by rw [HVAL.out]; unfold Lib.checkN; simp [hlen, p0, p1]
                  have z1 : (hi : Int) < (b1 : Int) := by omega
                  have y1 : hi < b1 := by omega
                  clear p0
                  have HF := Lib.hid hF
                  clear hF HVAL
                  go_wp2_with fail
                  go_quiet (fail)
                  go_wp2_with fail
                  go_ret
                  exact ⟨ret_eq (by rw [HF.out]; rfl), below_box HST.out.bel HST.out.bel.size _ _⟩
                have z1 : decide ((hi : Int) < (b1 : Int)) = false := by simp; omega
                have y1 : decide (hi < b1) = false := by simp; omega
                have hV : ANS = Lib.validD (U (r.drop 2)) := by rw [HVAL.out]; unfold Lib.checkN; simp [hlen, p0, p1]
                have HV := Lib.hid hV.symm
                clear hV HVAL p0 p1
                have hdl : Hid ((r.drop 2).length = m + 1 - 2) := by show _ = _; rw [List.length_drop, HST.out.len]
                by_cases hmn : m + 1 = 2
                · obtain rfl : m = 1 := by omega
                  go_wp2_with fail
                  go_quiet (fail)
                  go_wp2_with fail
                  go_roundw
                  case rel => exact ⟨_, 0, _, rfl, by omega, hdl, octDrop HST.out.oct 2, .inl (List.eq_nil_of_length_eq_zero hdl.out), HV, below_box HST.out.bel HST.out.bel.size _ _⟩
                  case measure => simp [vlen]
                · go_wp2_with fail
                  go_quiet (fail)
                  go_wp2_with fail
                  go_roundw
                  case rel => exact ⟨_, m + 1 - 2, _, rfl, by omega, hdl, octDrop HST.out.oct 2, .inr ⟨g, o + 2, rfl, reads_box (reads_drop HST.out.rd 2) _ _⟩, HV, below_box HST.out.bel HST.out.bel.size _ _⟩
                  case measure => simp [vlen]; omega
          · as_aux_lemma =>
              by_cases hlen : m + 1 < 3
              · have hF : ANS = false := by rw [HVAL.out]; unfold Lib.checkN; simp [hlen]
                have hlz : (m : Int) + 1 < 3 := by omega
                have HF := Lib.hid hF
                clear hF HVAL
                go_wp2_with fail
                go_quiet (fail)
                go_wp2_with fail
                go_ret
                exact ⟨ret_eq (by rw [HF.out]; rfl), below_box HST.out.bel HST.out.bel.size _ _⟩
              · have hlz : decide ((m : Int) + 1 < 3) = false := by simp; omega
                have c1 : wr.cell? ⟨g, o + 1, none⟩ = some (.int .u8 ((r.getD 1 0 : Nat) : Int)) := HST.out.rd 1 (by rw [HST.out.len]; omega)
                have l1 := hd_lt r HST.out.oct 1
                have i1 : (1 : Int) < (m : Int) + 1 := by omega
                have c2 : wr.cell? ⟨g, o + 2, none⟩ = some (.int .u8 ((r.getD 2 0 : Nat) : Int)) := HST.out.rd 2 (by rw [HST.out.len]; omega)
                have l2 := hd_lt r HST.out.oct 2
                have i2 : (2 : Int) < (m : Int) + 1 := by omega
                generalize r.getD 1 0 = b1 at *
                generalize r.getD 2 0 = b2 at *
                by_cases p0 : b1 < lo
                · have hF : ANS = false := by rw [HVAL.out]; unfold Lib.checkN; simp [hlen, p0]
                  have z0 : (b1 : Int) < (lo : Int) := by omega
                  have y0 : b1 < lo := by omega
                  have HF := Lib.hid hF
                  clear hF HVAL
                  go_wp2_with fail
                  go_quiet (fail)
                  go_wp2_with fail
                  go_ret
                  exact ⟨ret_eq (by rw [HF.out]; rfl), below_box HST.out.bel HST.out.bel.size _ _⟩
                have z0 : decide ((b1 : Int) < (lo : Int)) = false := by simp; omega
                have y0 : decide (b1 < lo) = false := by simp; omega
                by_cases p1 : hi < b1
                · have hF : ANS = false := by rw [HVAL.out]; unfold Lib.checkN; simp [hlen, p0, p1]
                  have z1 : (hi : Int) < (b1 : Int) := by omega
                  have y1 : hi < b1 := by omega
                  clear p0
                  have HF := Lib.hid hF
                  clear hF HVAL
                  go_wp2_with fail
                  go_quiet (fail)
                  go_wp2_with fail
                  go_ret
                  exact ⟨ret_eq (by rw [HF.out]; rfl), below_box HST.out.bel HST.out.bel.size _ _⟩
                have z1 : decide ((hi : Int) < (b1 : Int)) = false := by simp; omega
                have y1 : decide (hi < b1) = false := by simp; omega
                by_cases p2 : b2 < 128
                · have hF : ANS = false := by rw [HVAL.out]; unfold Lib.checkN; simp [hlen, p0, p1, p2]
                  have z2 : (b2 : Int) < 128 := by omega
                  have y2 : b2 < 128 := by omega
                  clear p0 p1
                  have HF := Lib.hid hF
                  clear hF HVAL
                  go_wp2_with fail
                  go_quiet (fail)
                  go_wp2_with fail
                  go_ret
                  exact ⟨ret_eq (by rw [HF.out]; rfl), below_box HST.out.bel HST.out.bel.size _ _⟩
                have z2 : decide ((b2 : Int) < 128) = false := by simp; omega
                have y2 : decide (b2 < 128) = false := by simp; omega
                by_cases p3 : 191 < b2
                · have hF : ANS = false := by rw [HVAL.out]; unfold Lib.checkN; simp [hlen, p0, p1, p2, p3]
                  have z3 : (191 : Int) < (b2 : Int) := by omega
                  have y3 : 191 < b2 := by omega
                  clear p0 p1 p2
                  have HF := Lib.hid hF
                  clear hF HVAL
                  go_wp2_with fail
                  go_quiet (fail)
                  go_wp2_with fail
                  go_ret
                  exact ⟨ret_eq (by rw [HF.out]; rfl), below_box HST.out.bel HST.out.bel.size _ _⟩
                have z3 : decide ((191 : Int) < (b2 : Int)) = false := by simp; omega
                have y3 : decide (191 < b2) = false := by simp; omega
                have hV : ANS = Lib.validD (U (r.drop 3)) := by rw [HVAL.out]; unfold Lib.checkN; simp [hlen, p0, p1, p2, p3]
                have HV := Lib.hid hV.symm
                clear hV HVAL p0 p1 p2 p3
                have hdl : Hid ((r.drop 3).length = m + 1 - 3) := by show _ = _; rw [List.length_drop, HST.out.len]
                by_cases hmn : m + 1 = 3
                · obtain rfl : m = 2 := by omega
                  go_wp2_with fail
                  go_quiet (fail)
                  go_wp2_with fail
                  go_roundw
                  case rel => exact ⟨_, 0, _, rfl, by omega, hdl, octDrop HST.out.oct 3, .inl (List.eq_nil_of_length_eq_zero hdl.out), HV, below_box HST.out.bel HST.out.bel.size _ _⟩
                  case measure => simp [vlen]
                · go_wp2_with fail
                  go_quiet (fail)
                  go_wp2_with fail
                  go_roundw
                  case rel => exact ⟨_, m + 1 - 3, _, rfl, by omega, hdl, octDrop HST.out.oct 3, .inr ⟨g, o + 3, rfl, reads_box (reads_drop HST.out.rd 3) _ _⟩, HV, below_box HST.out.bel HST.out.bel.size _ _⟩
                  case measure => simp [vlen]; omega
          · as_aux_lemma =>
              by_cases hlen : m + 1 < 4
              · have hF : ANS = false := by rw [HVAL.out]; unfold Lib.checkN; simp [hlen]
                have hlz : (m : Int) + 1 < 4 := by omega
                have HF := Lib.hid hF
                clear hF HVAL
                go_wp2_with fail
                go_quiet (fail)
                go_wp2_with fail
                go_ret
                exact ⟨ret_eq (by rw [HF.out]; rfl), below_box HST.out.bel HST.out.bel.size _ _⟩
              · have hlz : decide ((m : Int) + 1 < 4) = false := by simp; omega
                have c1 : wr.cell? ⟨g, o + 1, none⟩ = some (.int .u8 ((r.getD 1 0 : Nat) : Int)) := HST.out.rd 1 (by rw [HST.out.len]; omega)
                have l1 := hd_lt r HST.out.oct 1
                have i1 : (1 : Int) < (m : Int) + 1 := by omega
                have c2 : wr.cell? ⟨g, o + 2, none⟩ = some (.int .u8 ((r.getD 2 0 : Nat) : Int)) := HST.out.rd 2 (by rw [HST.out.len]; omega)
                have l2 := hd_lt r HST.out.oct 2
                have i2 : (2 : Int) < (m : Int) + 1 := by omega
                have c3 : wr.cell? ⟨g, o + 3, none⟩ = some (.int .u8 ((r.getD 3 0 : Nat) : Int)) := HST.out.rd 3 (by rw [HST.out.len]; omega)
                have l3 := hd_lt r HST.out.oct 3
                have i3 : (3 : Int) < (m : Int) + 1 := by omega
                generalize r.getD 1 0 = b1 at *
                generalize r.getD 2 0 = b2 at *
                generalize r.getD 3 0 = b3 at *
                by_cases p0 : b1 < lo
                · have hF : ANS = false := by rw [HVAL.out]; unfold Lib.checkN; simp [hlen, p0]
                  have z0 : (b1 : Int) < (lo : Int) := by omega
                  have y0 : b1 < lo := by omega
                  have HF := Lib.hid hF
                  clear hF HVAL
                  go_wp2_with fail
                  go_quiet (fail)
                  go_wp2_with fail
                  go_ret
                  exact ⟨ret_eq (by rw [HF.out]; rfl), below_box HST.out.bel HST.out.bel.size _ _⟩
                have z0 : decide ((b1 : Int) < (lo : Int)) = false := by simp; omega
                have y0 : decide (b1 < lo) = false := by simp; omega
                by_cases p1 : hi < b1
                · have hF : ANS = false := by rw [HVAL.out]; unfold Lib.checkN; simp [hlen, p0, p1]
                  have z1 : (hi : Int) < (b1 : Int) := by omega
                  have y1 : hi < b1 := by omega
                  clear p0
                  have HF := Lib.hid hF
                  clear hF HVAL
                  go_wp2_with fail
                  go_quiet (fail)
                  go_wp2_with fail
                  go_ret
                  exact ⟨ret_eq (by rw [HF.out]; rfl), below_box HST.out.bel HST.out.bel.size _ _⟩
                have z1 : decide ((hi : Int) < (b1 : Int)) = false := by simp; omega
                have y1 : decide (hi < b1) = false := by simp; omega
                by_cases p2 : b2 < 128
                · have hF : ANS = false := by rw [HVAL.out]; unfold Lib.checkN; simp [hlen, p0, p1, p2]
                  have z2 : (b2 : Int) < 128 := by omega
                  have y2 : b2 < 128 := by omega
                  clear p0 p1
                  have HF := Lib.hid hF
                  clear hF HVAL
                  go_wp2_with fail
                  go_quiet (fail)
                  go_wp2_with fail
                  go_ret
                  exact ⟨ret_eq (by rw [HF.out]; rfl), below_box HST.out.bel HST.out.bel.size _ _⟩
                have z2 : decide ((b2 : Int) < 128) = false := by simp; omega
                have y2 : decide (b2 < 128) = false := by simp; omega
                by_cases p3 : 191 < b2
                · have hF : ANS = false := by rw [HVAL.out]; unfold Lib.checkN; simp [hlen, p0, p1, p2, p3]
                  have z3 : (191 : Int) < (b2 : Int) := by omega
                  have y3 : 191 < b2 := by omega
                  clear p0 p1 p2
                  have HF := Lib.hid hF
                  clear hF HVAL
                  go_wp2_with fail
                  go_quiet (fail)
                  go_wp2_with fail
                  go_ret
                  exact ⟨ret_eq (by rw [HF.out]; rfl), below_box HST.out.bel HST.out.bel.size _ _⟩
                have z3 : decide ((191 : Int) < (b2 : Int)) = false := by simp; omega
                have y3 : decide (191 < b2) = false := by simp; omega
                by_cases p4 : b3 < 128
                · have hF : ANS = false := by rw [HVAL.out]; unfold Lib.checkN; simp [hlen, p0, p1, p2, p3, p4]
                  have z4 : (b3 : Int) < 128 := by omega
                  have y4 : b3 < 128 := by omega
                  clear p0 p1 p2 p3
                  have HF := Lib.hid hF
                  clear hF HVAL
                  go_wp2_with fail
                  go_quiet (fail)
                  go_wp2_with fail
                  go_ret
                  exact ⟨ret_eq (by rw [HF.out]; rfl), below_box HST.out.bel HST.out.bel.size _ _⟩
                have z4 : decide ((b3 : Int) < 128) = false := by simp; omega
                have y4 : decide (b3 < 128) = false := by simp; omega
                by_cases p5 : 191 < b3
                · have hF : ANS = false := by rw [HVAL.out]; unfold Lib.checkN; simp [hlen, p0, p1, p2, p3, p4, p5]
                  have z5 : (191 : Int) < (b3 : Int) := by omega
                  have y5 : 191 < b3 := by omega
                  clear p0 p1 p2 p3 p4
                  have HF := Lib.hid hF
                  clear hF HVAL
                  go_wp2_with fail
                  go_quiet (fail)
                  go_wp2_with fail
                  go_ret
                  exact ⟨ret_eq (by rw [HF.out]; rfl), below_box HST.out.bel HST.out.bel.size _ _⟩
                have z5 : decide ((191 : Int) < (b3 : Int)) = false := by simp; omega
                have y5 : decide (191 < b3) = false := by simp; omega
                have hV : ANS = Lib.validD (U (r.drop 4)) := by rw [HVAL.out]; unfold Lib.checkN; simp [hlen, p0, p1, p2, p3, p4, p5]
                have HV := Lib.hid hV.symm
                clear hV HVAL p0 p1 p2 p3 p4 p5
                have hdl : Hid ((r.drop 4).length = m + 1 - 4) := by show _ = _; rw [List.length_drop, HST.out.len]
                by_cases hmn : m + 1 = 4
                · obtain rfl : m = 3 := by omega
                  go_wp2_with fail
                  go_quiet (fail)
                  go_wp2_with fail
                  go_roundw
                  case rel => exact ⟨_, 0, _, rfl, by omega, hdl, octDrop HST.out.oct 4, .inl (List.eq_nil_of_length_eq_zero hdl.out), HV, below_box HST.out.bel HST.out.bel.size _ _⟩
                  case measure => simp [vlen]
                · go_wp2_with fail
                  go_quiet (fail)
                  go_wp2_with fail
                  go_roundw
                  case rel => exact ⟨_, m + 1 - 4, _, rfl, by omega, hdl, octDrop HST.out.oct 4, .inr ⟨g, o + 4, rfl, reads_box (reads_drop HST.out.rd 4) _ _⟩, HV, below_box HST.out.bel HST.out.bel.size _ _⟩
                  case measure => simp [vlen]; omega
    · obtain rfl : m = 0 := by omega
      have HV : Hid (ANS = true) := by
        show _ = _
        rw [← hv.out, List.eq_nil_of_length_eq_zero hr.out]; rfl
      go_wp2_with fail
      go_ret
      exact ⟨ret_eq (by rw [HV.out]; rfl), hB.out⟩
end Go.Proofs.YtdihelpimpkfoaaDoor
end
