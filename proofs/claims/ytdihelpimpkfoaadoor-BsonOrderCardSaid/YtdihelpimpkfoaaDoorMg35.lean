/- BsonRDoc. -/
import Derived.Test.YtdihelpimpkfoaaDoorMg34
set_option maxRecDepth 100000
section
namespace Bson
open Go
/-- The fields of a document that is so deep. -/
def fieldsRes (d : Nat) (list : Bool) (outer : Option Nat) (l : List Nat) : Res (List (ByteArray × Val)) := (Go.Proofs.YtdihelpimpkfoaaDoor.lengthOf 5 l).bind fun n r =>
  if (∃ m, outer = some m ∧ n ≠ m) then .err 4
  else (loop (valOf (doc d false none) (doc d true none)) list (r.length + 1) [] r).bind fun fs r' => if (l.length : Int) - r'.length ≠ n then .err 4 else .ok fs r'
theorem doc_fields (d : Nat) (list : Bool) (outer : Option Nat) (l : List Nat) : doc (d + 1) list outer l = (fieldsRes d list outer l).bind fun fs r => .ok (shut list fs) r := by
  unfold fieldsRes Go.Proofs.YtdihelpimpkfoaaDoor.lengthOf
  rw [doc]
  cases take 4 l with
  | err e => rfl
  | ok h r =>
    show (if signed h < 5 ∨ _ then _ else _) = _
    show _ = (Res.bind (Res.bind (if signed h < 5 then Res.err 4 else Res.ok (signed h) r) _) _)
    by_cases h5 : signed h < 5
    · rw [if_pos (.inl h5), if_pos h5]; rfl
    · rw [if_neg h5]
      show _ = (Res.bind (if (∃ m, outer = some m ∧ signed h ≠ m) then Res.err 4 else _) _)
      by_cases hm : ∃ m : Nat, outer = some m ∧ signed h ≠ m
      · rw [if_pos (.inr hm), if_pos hm]; rfl
      · rw [if_neg (by rintro (h | h); exact h5 h; exact hm h), if_neg hm]
        cases loop (valOf (doc d false none) (doc d true none)) list (r.length + 1) [] r with
        | err e => rfl
        | ok fs r2 =>
          show (if _ then _ else _) = (Res.bind (if _ then _ else _) _)
          split
          · rfl
          · rfl
theorem told_length (least : Int) (l : List Nat) : Told (Go.Proofs.YtdihelpimpkfoaaDoor.lengthOf least l) := told_bind (told_take _ _) fun _ _ => told_ite (told_err (by decide)) (told_ok _ _)
theorem told_fields (d : Nat) (list : Bool) (outer : Option Nat) (l : List Nat) : Told (fieldsRes d list outer l) := told_bind (told_length _ _) fun n r => by
  refine fun m e => ?_
  have h1 : Told (if (∃ m : Nat, outer = some m ∧ n ≠ m) then (Res.err 4 : Res (List (ByteArray × Val))) else (loop (valOf (doc d false none) (doc d true none)) list (r.length + 1) [] r).bind fun fs r' => if (l.length : Int) - r'.length ≠ n then .err 4 else .ok fs r') := told_ite (told_err (by decide)) (told_bind (told_loop (fun c l => told_valOf (told_doc d false none) (told_doc d true none) c l) list _ _ _) fun fs r' => told_ite (told_err (by decide)) (told_ok _ _))
  exact h1 m e
end Bson
namespace Go.Proofs.YtdihelpimpkfoaaDoor
open Go.RowKit
open Seal
open Bson (Val)
theorem FldV.mono {L L2 : Nat} {w : World} {f : List (ByteArray × Val)} {v : Value} (h : FldV L w f v) (hl : L2 ≤ L) : FldV L2 w f v := by
  obtain ⟨h0, hh, a, c, e, h1, h2⟩ := h
  exact ⟨h0, hh, a, c, e, h1, h2.kept (Kept.of_below (Below.refl _ _)) (fun g hg => Nat.le_trans hl hg) (fun _ _ z => VIn.kept (Kept.of_below (Below.refl _ _)) (fun g hg => Nat.le_trans hl hg) z)⟩
set_option maxRecDepth 100000 in
set_option maxHeartbeats 4000000 in
theorem fields_any (d : Nat) (dp : Int) (hd0 : 1 ≤ dp) (hd1 : dp ≤ 32) (list : Bool) (w : World) (gr : Nat) (ba : Option Addr) (bc : Nat) (b : List Nat) (k : Nat) (VAL : b ≠ [] → AllRead d (dp + 1) gr ba bc b) (hR : Rdr w gr ba bc b k) (hT : Tabs w) :
    Calls Tryd.prog 26 #[.pointer (some ⟨gr, 0, none⟩), .int .i64 dp, .bool list] w (RPost (.slice none 0 0) (FldV w.heap.size) w gr ba bc b (Bson.fieldsRes d list (if dp = 1 then some b.length else none) (b.drop k))) := by
  obtain ⟨RES, hRES⟩ : ∃ r, r = Bson.fieldsRes d list (if dp = 1 then some b.length else none) (b.drop k) := ⟨_, rfl⟩
  rw [← hRES]
  have HRES := Lib.hid hRES
  have hgr := hR.lt
  have hlen := hR.len
  have hle := hR.le
  have c1 := hR.c1
  have CL := Lib.hid (length_any w gr ba bc b k 5 hR)
  have HW : Hid (∀ W, w.grownBy W (some gr) → Tabs W) := fun W hg => Tabs.read hT hR hg
  have hd3 : ¬ (32 : Int) < dp := by omega
  clear hRES hT
  cases hl : lengthOf 5 (b.drop k) with
  | err n =>
    have hn0 := Bson.told_length 5 _ n hl
    have hni : ((n : Int) != 0) = true := by rw [bne_iff_ne]; omega
    have HRS : Hid (RES = .err n) := by
      show RES = _
      rw [HRES.out]
      unfold Bson.fieldsRes
      rw [hl]; rfl
    have CE := Lib.hid (CL.out.err n hl)
    clear hl hR CL
    go_enter Tryd.func26, Tryd.ntmps26
    go_wp2_with fail
    refine CE.out.mono ?_
    rintro e w2 ⟨rfl, hg2⟩
    have HG2 := Lib.hid hg2
    clear hg2
    go_wp2_with fail
    go_ret2
    unfold RPost
    rw [HRS.out]
    exact ⟨rfl, HG2.out⟩
  | ok n r =>
    have hne : b ≠ [] := by
      rintro rfl
      simp [lengthOf, Bson.take, Bson.Res.bind] at hl
    have HE1 : Hid ((if (∃ m : Nat, (if dp = 1 then some b.length else none) = some m ∧ n ≠ m) then .err 4 else (Bson.loop (Bson.valOf (Bson.doc d false none) (Bson.doc d true none)) list (r.length + 1) [] r).bind fun fs r' => if ((b.drop k).length : Int) - r'.length ≠ n then .err 4 else .ok fs r') = RES) := by
      show _ = RES
      rw [HRES.out]
      unfold Bson.fieldsRes
      rw [hl]; rfl
    have CO := Lib.hid (CL.out.ok n r hl)
    have HR := Lib.hid hR
    clear hl CL hR
    obtain ⟨bb, hbb⟩ : ∃ bb : Bool, (bb = true ↔ (∃ m : Nat, (if dp = 1 then some b.length else none) = some m ∧ n ≠ m)) := by
      by_cases hc : ∃ m : Nat, (if dp = 1 then some b.length else none) = some m ∧ n ≠ m
      · exact ⟨true, by simp only [true_iff]; exact hc⟩
      · exact ⟨false, by simp only [Bool.false_eq_true, false_iff]; exact hc⟩
    have HBB := Lib.hid hbb
    clear hbb
    go_enter Tryd.func26, Tryd.ntmps26
    go_wp2_with fail
    refine CO.out.mono ?_
    rintro e w2 ⟨vn, k2, rfl, rfl, rfl, hR2, hg2⟩
    have HR2 := Lib.hid hR2
    have HG2 := Lib.hid hg2
    have q0 := hR2.c0
    have q1 := hR2.c1
    have hk2 := hR2.le
    clear CO hR2 hg2 c1
    go_upto_region 7 with fail
    go_cut [36] from 27 to 35 (fun u W => u = .bool bb ∧ W = w2)
    case first =>
      by_cases h1 : dp = 1
      · subst h1
        by_cases hnb : n = (b.length : Int)
        · subst hnb
          obtain rfl : bb = false := by
            cases bb with
            | false => rfl
            | true => obtain ⟨m, hm, hm2⟩ := HBB.out.1 rfl; rw [if_pos rfl] at hm; injection hm with hm; exact absurd (by rw [hm]) hm2
          go_wp2_with fail
          go_meet
          exact ⟨rfl, rfl⟩
        · obtain rfl : bb = true := HBB.out.2 ⟨b.length, if_pos rfl, hnb⟩
          have hnx : (n != (b.length : Int)) = true := by rw [bne_iff_ne]; exact hnb
          go_wp2_with fail
          go_meet
          exact ⟨rfl, rfl⟩
      · have h1b : (dp == 1) = false := by rw [beq_eq_false_iff_ne]; exact h1
        obtain rfl : bb = false := by
          cases bb with
          | false => rfl
          | true => obtain ⟨m, hm, hm2⟩ := HBB.out.1 rfl; rw [if_neg h1] at hm; cases hm
        go_wp2_with fail
        go_meet
        exact ⟨rfl, rfl⟩
    case rest =>
      obtain ⟨rfl, rfl⟩ := hcut
      cases bb with
      | true =>
        have HRS : Hid (RES = .err 4) := by
          show RES = _
          rw [← HE1.out, if_pos (HBB.out.1 rfl)]
        go_wp2_with fail
        go_ret2
        unfold RPost
        rw [HRS.out]
        exact ⟨rfl, HG2.out⟩
      | false =>
        have HE2 : Hid (((Bson.loop (Bson.valOf (Bson.doc d false none) (Bson.doc d true none)) list ((b.drop k2).length + 1) [] (b.drop k2)).bind fun fs r' => if ((b.drop k).length : Int) - r'.length ≠ n then .err 4 else .ok fs r') = RES) := by
          show _ = RES
          rw [← HE1.out, if_neg (fun hh => absurd (HBB.out.2 hh) (by decide))]
        clear HE1
        have CF := Lib.hid (fte_any d dp (by omega) (by omega) list wc gr ba bc b k2 (VAL hne) HR2.out hne (HW.out wc HG2.out) ((b.drop k2).length + 1) (by rw [List.length_drop]; omega))
        obtain ⟨LR, hLR⟩ : ∃ r, r = Bson.loop (Bson.valOf (Bson.doc d false none) (Bson.doc d true none)) list ((b.drop k2).length + 1) [] (b.drop k2) := ⟨_, rfl⟩
        rw [← hLR] at CF
        have HLR := Lib.hid hLR
        clear hLR
        cases LR with
        | err m =>
          have hn0 := Bson.told_loop (fun c l => Bson.told_valOf (Bson.told_doc d false none) (Bson.told_doc d true none) c l) list _ _ _ m HLR.out.symm
          have hni : ((m : Int) != 0) = true := by rw [bne_iff_ne]; omega
          have HRS : Hid (RES = .err m) := by
            show RES = _
            rw [← HE2.out, ← HLR.out]; rfl
          unfold RPost ErrPost at CF
          go_wp2_with fail
          refine CF.out.mono ?_
          rintro e w3 ⟨rfl, hg3⟩
          have HG3 := Lib.hid (grown_then HG2.out hg3)
          clear hg3
          go_wp2_with fail
          go_ret2
          unfold RPost
          rw [HRS.out]
          exact ⟨rfl, HG3.out⟩
        | ok fs r3 =>
          have HE3 : Hid ((if ((b.drop k).length : Int) - r3.length ≠ n then .err 4 else .ok fs r3) = RES) := by
            show _ = RES
            rw [← HE2.out, ← HLR.out]; rfl
          have hsz2 : w.heap.size ≤ wc.heap.size := HG2.out.size
          unfold RPost OkPost at CF
          go_wp2_with fail
          refine CF.out.mono ?_
          rintro e w3 ⟨vf, k3, rfl, hV3, rfl, hR3, hg3⟩
          have HV3 := Lib.hid (hV3.mono hsz2)
          have HG3 := Lib.hid (grown_then HG2.out hg3)
          have HR3 := Lib.hid hR3
          have z1 := hR3.c1
          have hk3 := hR3.le
          clear hV3 hg3 hR3 q0 q1
          have hln : ((b.drop k).length : Int) - (b.drop k3).length = (k3 : Int) - k := by rw [List.length_drop, List.length_drop]; omega
          rw [hln] at HE3
          by_cases hx : (k3 : Int) - k = n
          · subst hx
            have HRS : Hid (RES = .ok fs (b.drop k3)) := by
              show RES = _
              rw [← HE3.out, if_neg (by simp)]
            clear hln
            go_wp2_with fail
            go_ret2
            unfold RPost
            rw [HRS.out]
            exact ⟨_, k3, rfl, HV3.out, rfl, HR3.out, HG3.out⟩
          · have hxb : ((k3 : Int) - (k : Int) != n) = true := by rw [bne_iff_ne]; exact hx
            have HRS : Hid (RES = .err 4) := by
              show RES = _
              rw [← HE3.out, if_pos hx]
            clear hln
            go_wp2_with fail
            go_ret2
            unfold RPost
            rw [HRS.out]
            exact ⟨rfl, HG3.out⟩
end Go.Proofs.YtdihelpimpkfoaaDoor
end
