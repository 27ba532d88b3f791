/- BsonName. -/
import Derived.Test.YtdihelpimpkfoaaDoorMg13
import Derived.Test.YtdihelpimpkfoaaDoorMg6
import Derived.Test.YtdihelpimpkfoaaDoorMg16
set_option maxRecDepth 100000
section
namespace Go.Proofs.YtdihelpimpkfoaaDoor
open Go.RowKit
open Seal
open Bson (Val Res)
def StrV (_ : World) (x : ByteArray) (v : Value) : Prop := v = .string x
theorem u8_U (l : List Nat) : Bson.u8 (Bson.ofBytes l) = Lib.validD (U l) := rfl
theorem Tabs8.grown {w w' : World} {gr bc k : Nat} {ba : Option Addr} {b : List Nat} (h : Tabs8 w) (hR : Rdr w gr ba bc b k) (hg : w.grownBy w' (some gr)) : Tabs8 w' := by
  have key : ∀ (g o x : Nat), w.cell? ⟨g, o, none⟩ = some (.int .u8 (x : Int)) → w'.cell? ⟨g, o, none⟩ = some (.int .u8 (x : Int)) := fun g o x hx =>
    (World.cell?_of_block (a := ⟨g, o, none⟩) (hg.block g (World.block_lt_of_cell? w _ hx) (fun e => hR.ne hx (Option.some.inj e)))).trans hx
  exact ⟨fun c hc => key _ _ _ (h.first c hc), fun i hi => key _ _ _ (h.lo i hi), fun i hi => key _ _ _ (h.hi i hi)⟩
set_option maxRecDepth 100000 in
set_option maxHeartbeats 2000000 in
theorem name_any (w : World) (gr : Nat) (ba : Option Addr) (bc : Nat) (b : List Nat) (k : Nat) (hR : Rdr w gr ba bc b k) (hne : b ≠ []) (hT : Tabs8 w) :
    Reads_ (.string ⟨#[]⟩) StrV 45 #[.pointer (some ⟨gr, 0, none⟩)] w gr ba bc b (Bson.name (b.drop k)) := by
  have hle := hR.le
  have hlen := hR.len
  have hcap := hR.cap
  have hmax := hR.max
  obtain ⟨g, o, rfl, hrd⟩ := hR.rd.resolve_left hne
  have c0 := hR.c0
  have c1 := hR.c1
  have f1 := hR.frz 1
  have hod := octDrop hR.oct k
  have hrk := reads_drop hrd k
  obtain ⟨L, hL⟩ : ∃ L, L = b.length := ⟨_, rfl⟩
  rw [← hL] at hle hlen hcap c0
  obtain ⟨l, hl⟩ : ∃ l, l = b.drop k := ⟨_, rfl⟩
  have hll : l.length = L - k := by rw [hl, List.length_drop, hL]
  rw [← hl] at hod hrk ⊢
  have HL := Lib.hid hL
  have HLE := Lib.hid hl
  have HLL := Lib.hid hll
  have HR := Lib.hid hR
  have HOD := Lib.hid hod
  have HRK := Lib.hid hrk
  have HT := Lib.hid hT
  have CI := Lib.hid (fun (n : Nat) (c : Nat) => index_any (w.drewN n) g (o + k) (L - k) c l hll hod (hrk.drewN n))
  have h1 : (0 : Int) ≤ (k : Int) := by omega
  have h2 : (k : Int) ≤ (L : Int) := by omega
  clear hL hl hll hod hrk hT hR hrd hne
  by_cases hz : l.findIdx (· == 0) = l.length
  · have hza : Hid (zeroAt l = -1) := by show _ = _; unfold zeroAt; rw [if_neg (by omega)]
    have hres : Bson.name l = .err 2 := by unfold Bson.name; rw [if_pos hz]
    rw [hres]
    rw [hza.out] at CI
    clear hz hres
    refine ⟨fun e2 he => ?_, fun x r hx => by cases hx⟩
    injection he with he; subst he
    by_cases hbk : bc = k
    · subst hbk
      have CJ := Lib.hid (fun (n : Nat) (c : Nat) => index_any (w.drewN n) g o 0 c [] rfl (fun _ h => by cases h) (fun j hj => by cases hj))
      rw [show zeroAt [] = -1 from rfl] at CJ
      obtain rfl : L = bc := by omega
      clear CI
      go_enter Tryd.func45, Tryd.ntmps45
      go_wp2_with fail
      go_quiet ((go_at_call 61; exact Calls.quiet_of_same (CJ.out _ _)))
      go_wp2_with fail
      go_ret2
      exact ⟨rfl, grown_drewN _ _ gr⟩
    · go_enter Tryd.func45, Tryd.ntmps45
      go_wp2_with fail
      go_quiet ((go_at_call 61; exact Calls.quiet_of_same (CI.out _ _)))
      go_wp2_with fail
      go_ret2
      exact ⟨rfl, grown_drewN _ _ gr⟩
  · obtain ⟨j, hj⟩ : ∃ j, j = l.findIdx (· == 0) := ⟨_, rfl⟩
    have hjl : j < l.length := by
      have := List.findIdx_le_length (xs := l) (p := (· == 0))
      omega
    have hza : zeroAt l = (j : Int) := by unfold zeroAt; rw [← hj, if_pos hjl]
    have hres : Bson.name l = if Bson.u8 (Bson.ofBytes (l.take j)) = false then .err 5 else if 120 < j then .err 15 else .ok (Bson.ofBytes (l.take j)) (l.drop (j + 1)) := by
      unfold Bson.name; rw [if_neg hz, ← hj]
    rw [hza] at CI
    rw [hres]
    have hjL : k + j + 1 ≤ L := by have := HLL.out; omega
    have hbk : ¬ bc = k := by omega
    have h3 : (k : Int) ≤ (k : Int) + (j : Int) := by omega
    have h4 : (k : Int) + (j : Int) ≤ (bc : Int) := by omega
    have h5 : IntKind.i64.wrap ((k : Int) + j) = (k : Int) + j := IntWalk.i64_in _ (by omega)
    have h6 : ((k : Int) + (j : Int)).toNat = k + j := by omega
    have hnd : (l.drop (j + 1)) = b.drop (k + j + 1) := by rw [HLE.out, List.drop_drop, Nat.add_assoc]
    have HND := Lib.hid hnd
    have htl : (l.take j).length = j := by rw [List.length_take]; omega
    have HTL := Lib.hid htl
    -- what the reader is behind its store, and the two contracts there
    have fin : ∀ q : Nat, ∃ w1, w1 = (w.drewN q).setCell ⟨gr, 1, none⟩ (.int .i64 ((k : Int) + (j + 1))) ∧ Rdr w1 gr (some ⟨g, o, none⟩) bc b (k + j + 1) ∧ w.grownBy w1 (some gr) ∧ SliceIs w1 (some ⟨g, o + k, none⟩) (l.take j) ∧ Tabs8 w1 := by
      intro q
      have hg : w.grownBy ((w.drewN q).setCell ⟨gr, 1, none⟩ (.int .i64 ((k : Int) + (j + 1)))) (some gr) := grown_setCell (grown_drewN w q gr) 1 _
      refine ⟨_, rfl, HR.out.moved hg (by rw [← HL.out]; exact hjL) ?_, hg, ?_, HT.out.grown HR.out hg⟩
      · rw [heap_setCell_same (w.drewN q) gr 1 _ _ _ (show (w.drewN q).heap[gr]? = _ from HR.out.blk)]
        have e : ((k : Int) + (j + 1)) = ((k + j + 1 : Nat) : Int) := by omega
        rw [e]; simp
      · exact SliceIs.grown (.inr ⟨g, o + k, rfl, reads_take HRK.out j⟩) HR.out hg
    have HFIN := Lib.hid fin
    have HOT := Lib.hid (octTake HOD.out j)
    have h7 : IntKind.i64.wrap ((j : Int) + 1) = (j : Int) + 1 := IntWalk.i64_in _ (by omega)
    have h8 : IntKind.i64.wrap ((k : Int) + ((j : Int) + 1)) = (k : Int) + ((j : Int) + 1) := IntWalk.i64_in _ (by omega)
    have HCV := Lib.hid (fun q : Nat => show Calls Tryd.prog 62 #[.slice (some ⟨g, o + k, none⟩) j (bc - k)] ((w.drewN q).setCell ⟨gr, 1, none⟩ (.int .i64 ((k : Int) + (j + 1)))) (fun e w2 => e = .returned (.bool (Bson.u8 (Bson.ofBytes (l.take j)))) ∧ Rdr w2 gr (some ⟨g, o, none⟩) bc b (k + j + 1) ∧ w.grownBy w2 (some gr) ∧ SliceIs w2 (some ⟨g, o + k, none⟩) (l.take j)) by
      obtain ⟨w1, hw1, hR1, hg1, hs1, hT1⟩ := HFIN.out q
      rw [← hw1]
      refine (valid_any w1 _ j (bc - k) (l.take j) HTL.out (by omega) (by omega) HOT.out hs1 hT1).mono ?_
      rintro e w2 ⟨rfl, hb⟩
      exact ⟨rfl, hR1.keep hb, grown_trans hg1 (grown_below hb gr), hs1.keep hb⟩)
    clear hz hj hza hres hnd htl fin HFIN HOD HRK HT HR
    by_cases hu : Bson.u8 (Bson.ofBytes (l.take j)) = false
    · rw [if_pos hu]
      rw [hu] at HCV
      clear hu
      refine ⟨fun e2 he => ?_, fun x r hx => by cases hx⟩
      injection he with he; subst he
      go_enter Tryd.func45, Tryd.ntmps45
      go_wp2_with fail
      go_quiet ((go_at_call 61; exact Calls.quiet_of_same (CI.out _ _)))
      go_wp2_with fail
      go_quiet (fail)
      go_wp2_with fail
      refine (HCV.out _).mono ?_
      rintro e w2 ⟨rfl, hR2, hg2, hs2⟩
      have HG2 := Lib.hid hg2
      clear hR2 hg2 hs2
      go_wp2_with fail
      go_ret2
      exact ⟨rfl, HG2.out⟩
    · have hu' : Bson.u8 (Bson.ofBytes (l.take j)) = true := by simpa using hu
      rw [if_neg hu]
      rw [hu'] at HCV
      clear hu hu'
      by_cases hj : 120 < j
      · have hjz : (120 : Int) < (j : Int) := by omega
        rw [if_pos hj]
        refine ⟨fun e2 he => ?_, fun x r hx => by cases hx⟩
        injection he with he; subst he
        go_enter Tryd.func45, Tryd.ntmps45
        go_wp2_with fail
        go_quiet ((go_at_call 61; exact Calls.quiet_of_same (CI.out _ _)))
        go_wp2_with fail
        go_quiet (fail)
        go_wp2_with fail
        refine (HCV.out _).mono ?_
        rintro e w2 ⟨rfl, hR2, hg2, hs2⟩
        have HG2 := Lib.hid hg2
        clear hR2 hg2 hs2
        go_wp2_with fail
        go_ret2
        exact ⟨rfl, HG2.out⟩
      · have hjz : ¬ (120 : Int) < (j : Int) := by omega
        rw [if_neg hj]
        refine ⟨fun e he => (by cases he), fun x r hx => ?_⟩
        injection hx with e1 e2
        subst e1; subst e2
        go_enter Tryd.func45, Tryd.ntmps45
        go_wp2_with fail
        go_quiet ((go_at_call 61; exact Calls.quiet_of_same (CI.out _ _)))
        go_wp2_with fail
        go_quiet (fail)
        go_wp2_with fail
        refine (HCV.out _).mono ?_
        rintro e w2 ⟨rfl, hR2, hg2, hs2⟩
        have HG2 := Lib.hid hg2
        have HR2 := Lib.hid hR2
        have hcv := conv_str w2 (some ⟨g, o + k, none⟩) j (bc - k) (l.take j) HTL.out hs2
        clear hR2 hg2 hs2
        go_wp2_with fail
        go_ret2
        exact ⟨_, k + j + 1, rfl, rfl, HND.out, HR2.out, HG2.out⟩
end Go.Proofs.YtdihelpimpkfoaaDoor
end
