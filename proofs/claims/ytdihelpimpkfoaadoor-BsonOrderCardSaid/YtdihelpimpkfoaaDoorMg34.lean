/- BsonFTE. -/
import Derived.Test.YtdihelpimpkfoaaDoorShelf
import Derived.Deep.CutRange
import Derived.Test.YtdihelpimpkfoaaDoorMg33
import Derived.Test.YtdihelpimpkfoaaDoorMg4
import Derived.Test.YtdihelpimpkfoaaDoorMg2
set_option maxRecDepth 100000
section
namespace Go.Proofs.YtdihelpimpkfoaaDoor
open Go.RowKit
open Seal
open Bson (Val)
theorem eql_func_nil {P : Program} (w : World) {t : TypeId} {p1 p2 : Array TypeId} {v : Bool} (h : P.underlying t = some (.func p1 p2 v)) (F : Fn) (r c : Array Value) : (binOp .eql t (.func F r c) .nilFunc).run P w = .ok (.bool false) w := by
  have e : ∀ d : Nat, (Op.equalIn (d + 1) t (.func F r c) .nilFunc).run P w = .ok false w := fun d => by
    simp [Op.equalIn, run_underlying h]
  simp only [binOp]
  simp [Op.equal, Op.maxDepth, e 9999]
theorem eql_nil_nil {P : Program} (w : World) {t : TypeId} {p1 p2 : Array TypeId} {v : Bool} (h : P.underlying t = some (.func p1 p2 v)) : (binOp .eql t .nilFunc .nilFunc).run P w = .ok (.bool true) w := by
  have e : ∀ d : Nat, (Op.equalIn (d + 1) t .nilFunc .nilFunc).run P w = .ok true w := fun d => by
    simp [Op.equalIn, run_underlying h]
  simp only [binOp]
  simp [Op.equal, Op.maxDepth, e 9999]
/-- The methods of all codes, one document deeper. -/
def AllRead (d : Nat) (dp : Int) (gr : Nat) (ba : Option Addr) (bc : Nat) (b : List Nat) : Prop := ∀ c f, fnOf c = some f → ∀ W k2, Rdr W gr ba bc b k2 → Tabs W → Reads_ zeroV (ValV W.heap.size) f #[.pointer (some ⟨gr, 0, none⟩), .int .i64 dp] W gr ba bc b ((Bson.valOf (Bson.doc d false none) (Bson.doc d true none)) c (b.drop k2))
theorem Tabs.read {w w' : World} {gr bc k : Nat} {ba : Option Addr} {b : List Nat} (h : Tabs w) (hR : Rdr w gr ba bc b k) (hg : w.grownBy w' (some gr)) : Tabs w' := by
  refine ⟨h.t8.grown hR hg, ?_⟩
  have h1 := h.p10
  unfold Lib.TabIs World.var? at *
  cases hgn : Tryd.prog.globalNamed "internal/strconv.uint64pow10" with
  | none => rw [hgn] at h1; cases h1
  | some g =>
    rw [hgn] at h1
    simp only [Option.bind_some] at h1 ⊢
    have hlt : g < w.heap.size := by
      refine Nat.lt_of_not_le fun hge => ?_
      rw [Array.getElem?_eq_none hge] at h1; cases h1
    have hne : g ≠ gr := by
      rintro rfl
      rw [hR.blk] at h1
      have h2 : 2 = Lib.pow10Tab.length := by simpa using congrArg Array.size (Option.some.inj h1)
      exact absurd h2 (by decide)
    rw [hg.block g hlt (fun e => hne (Option.some.inj e))]
    exact h1
/-- hold has looked. -/
theorem FLoop.held {w : World} {gr : Nat} {ba : Option Addr} {bc : Nat} {b : List Nat} {k k0 : Nat} {acc : List (ByteArray × Val)} {v : Value} {wr w' : World} (h : FLoop w gr ba bc b k acc v wr) (h0 : Rdr w gr ba bc b k0) (hm : HMove w.heap.size wr w') (hn : Nms w' w.heap.size acc) : FLoop w gr ba bc b k acc v w' := by
  obtain ⟨hh, xs, hf⟩ := h.fs
  have hg := hmove_grown h.gw hm (Nat.le_refl _)
  exact ⟨h0.moved hg h.rd.le ((hm.2.2.2.2.2 gr h0.lt).trans h.rd.blk), ⟨hh, xs, hf.held hm h.nm.box (fun g hq e => by have h1 : w.heap.size < g := hq; omega)⟩, hn, h.nd, hg, Nat.lt_of_lt_of_le h.sz hm.2.2.2.1⟩
/-- A field has been pushed. -/
theorem FLoop.pushed {w : World} {gr : Nat} {ba : Option Addr} {bc : Nat} {b : List Nat} {k k0 hy : Nat} {acc : List (ByteArray × Val)} {v v' : Value} {wr w5 w' : World} {s : ByteArray} {y : Val} {c0 c1 c2 c3 c4 c5 : Value} {xs : List Value} {hh : Nat} (h : FLoop w gr ba bc b k acc v wr) (h0 : Rdr w gr ba bc b k0) (hf : FAcc wr w.heap.size v (fun g => w.heap.size < g) hh acc xs)
    (hb : Below wr.heap.size wr w5) (hw : Wrote w5 w' v v') (hown : w'.ownsRow w.heap.size 35 7 v' (acc.length + 1) (xs ++ [.string s, c0, c1, c2, c3, c4, c5])) (hs : s.size ≤ 120) (hv : VIn w5 (fun g => w.heap.size < g ∧ v.ownBlock ≠ some g) hy y (.agg #[c0, c1, c2, c3, c4, c5])) (hn : s ∉ acc.map (·.1)) : FLoop w gr ba bc b k (acc ++ [(s, y)]) v' w' := by
  have hg5 : w.grownBy w5 (some gr) := grown_then h.gw (grown_of_below hb gr)
  have hf5 := (hf.keep hb).up (Nat.le_max_left hh hy)
  have hge : ∀ g, v.ownBlock = some g → w.heap.size ≤ g := fun g e => (hf5.own.lt g e).1
  have hg : w.grownBy w' (some gr) := ⟨hw.1.os.trans hg5.os, hw.1.tape.trans hg5.tape, hw.1.output.trans hg5.output, Nat.le_trans hg5.size hw.1.size, fun j hj hne => (hw.1.block j (Nat.lt_of_lt_of_le hj hg5.size) (fun e => by have := hge j e.symm; omega)).trans (hg5.block j hj hne)⟩
  have hgb : w'.heap[gr]? = wr.heap[gr]? := (hw.1.block gr (Nat.lt_of_lt_of_le h.rd.lt hb.size) (fun e => by have := hge gr e.symm; have := h0.lt; omega)).trans (hb.block gr h.rd.lt)
  refine ⟨h0.moved hg h.rd.le (hgb.trans h.rd.blk), ⟨_, _, hf5.push hw hown (by omega) (hv.up (Nat.le_max_right hh hy))⟩, ?_, ?_, hg, Nat.lt_of_lt_of_le h.sz (Nat.le_trans hb.size hw.1.size)⟩
  · exact ((h.nm.below hb).fielded hw.1 (fun g e => hf5.block e.symm.symm)).pushed _
  · rw [List.map_append, List.nodup_append]
    refine ⟨h.nd, by simp, fun a ha c hc => ?_⟩
    obtain rfl : c = s := by simpa using hc
    rintro rfl
    exact hn ha
set_option maxRecDepth 100000 in
set_option maxHeartbeats 4000000 in
theorem fte_any (d : Nat) (dp : Int) (hd0 : 0 ≤ dp) (hd1 : dp ≤ 100) (list : Bool) (w : World) (gr : Nat) (ba : Option Addr) (bc : Nat) (b : List Nat) (k : Nat) (VAL : AllRead d (dp + 1) gr ba bc b) (hR : Rdr w gr ba bc b k) (hne : b ≠ []) (hT : Tabs w) (gas : Nat) (hgas : b.length - k < gas) :
    Calls Tryd.prog 36 #[.pointer (some ⟨gr, 0, none⟩), .int .i64 dp, .bool list] w (RPost (.slice none 0 0) (FldV w.heap.size) w gr ba bc b (Bson.loop (Bson.valOf (Bson.doc d false none) (Bson.doc d true none)) list gas [] (b.drop k))) := by
  obtain ⟨i0, hi, hz0, hz1, hz2⟩ := info_parts infoFd
  obtain ⟨RES, hRES⟩ : ∃ r, r = Bson.loop (Bson.valOf (Bson.doc d false none) (Bson.doc d true none)) list gas [] (b.drop k) := ⟨_, rfl⟩
  rw [← hRES]
  have HE0 := Lib.hid hRES.symm
  have HR := Lib.hid hR
  have HT := Lib.hid hT
  have VAL := Lib.hid VAL
  have hgr := hR.lt
  have hlen := hR.len
  have hdw : IntKind.i64.wrap (dp + 1) = dp + 1 := IntWalk.i64_in _ (by omega)
  have HW : Hid (∀ W, w.grownBy W (some gr) → Tabs W) := fun W hg => Tabs.read HT.out HR.out hg
  have qf : ∀ (W : World) (F : Nat), (binOp .eql 90 (.func (.func F) #[] #[]) .nilFunc).run Tryd.prog W = .ok (.bool false) W := fun W F => eql_func_nil W Tryd.underlying90 _ _ _
  have qn : ∀ (W : World), (binOp .eql 90 .nilFunc .nilFunc).run Tryd.prog W = .ok (.bool true) W := fun W => eql_nil_nil W Tryd.underlying90
  clear hRES hR hT
  go_enter Tryd.func36, Tryd.ntmps36
  go_wp2_with fail
  go_loopw [8] (fun u wr => ∃ (kk gas : Nat) (acc : List (ByteArray × Val)) (v : Value), v = u ∧ Hid (FLoop w gr ba bc b kk acc v wr) ∧ Hid (Bson.loop (Bson.valOf (Bson.doc d false none) (Bson.doc d true none)) list gas acc (b.drop kk) = RES) ∧ b.length - kk < gas ∧ acc.length ≤ kk) (fun _ W => b.length - posOf W gr)
  case atStart =>
    have hb1 : Below w.heap.size w (w.alloc (.cells #[.map none] 84)) := (Below.refl _ w).alloc (Nat.le_refl _) _
    exact ⟨k, gas, [], _, rfl, ⟨HR.out.keep hb1, ⟨0, [], FAcc.nil _ _ _ _⟩, .inl (heap_alloc_new w _), by simp, grown_of_below hb1 gr, by simp⟩, HE0, hgas, Nat.zero_le _⟩
  case round =>
    obtain ⟨kk, gas2, acc, v8, rfl, HL, HE, hgas2, hacc⟩ := hrel
    have hle := HL.out.rd.le
    have hpos := HL.out.rd.pos
    obtain ⟨g2, rfl⟩ : ∃ g2, gas2 = g2 + 1 := ⟨gas2 - 1, by omega⟩
    by_cases hk : kk + 1 ≤ b.length
    case neg =>
      have HRS : Hid (RES = .err 2) := by
        show RES = _
        rw [← HE.out, List.drop_of_length_le (by omega)]; rfl
      have CT : Hid (Calls Tryd.prog 42 #[.pointer (some ⟨gr, 0, none⟩), .int .i64 1] wr fun e w' => e = .returned (.tuple #[.slice none 0 0, .int .i64 2]) ∧ ∃ q, w' = wr.drewN q) := take_no wr gr ba bc b kk 1 HL.out.rd (by decide) (by omega)
      go_wp2_with fail
      refine CT.out.mono ?_
      rintro e w2 ⟨rfl, q, rfl⟩
      go_wp2_with fail
      go_ret2
      unfold RPost
      rw [HRS.out]
      exact ⟨rfl, grown_then HL.out.gw (grown_drewN _ _ _)⟩
    case pos =>
      obtain ⟨cb, hcb⟩ : ∃ c, c = b[kk] := ⟨_, rfl⟩
      have hdrop : b.drop kk = cb :: b.drop (kk + 1) := by rw [hcb]; exact List.drop_eq_getElem_cons (by omega)
      have CT : Hid (Calls Tryd.prog 42 #[.pointer (some ⟨gr, 0, none⟩), .int .i64 1] wr (TakeYes wr gr ba bc b kk 1)) := take_yes wr gr ba bc b kk 1 HL.out.rd hk
      have HDR := Lib.hid hdrop
      have HE1 : Hid ((if cb = 0 then .ok acc (b.drop (kk + 1)) else if Bson.known cb = false then .err 9 else (Bson.name (b.drop (kk + 1))).bind fun s r2 => if list = true ∧ s ≠ Bson.digits acc.length then .err 4 else if acc.any (fun p => decide (p.1 = s)) = true then .err 6 else ((Bson.valOf (Bson.doc d false none) (Bson.doc d true none)) cb r2).bind fun v r3 => Bson.loop (Bson.valOf (Bson.doc d false none) (Bson.doc d true none)) list g2 (acc ++ [(s, v)]) r3) = RES) := by
        show _ = RES
        rw [← HE.out, HDR.out]; rfl
      clear hcb hdrop HE
      go_wp2_with fail
      refine CT.out.mono ?_
      rintro e w2 ⟨a1, c1, rfl, hc1, hc1m, hs1, hR2, hg2⟩
      have HL2 := Lib.hid (HL.out.grown hgr hg2 hR2)
      obtain ⟨g1, o1, rfl, q0⟩ : ∃ g o, a1 = some ⟨g, o, none⟩ ∧ w2.cell? ⟨g, o, none⟩ = some (.int .u8 (cb : Int)) := by
        rw [HDR.out] at hs1
        rcases hs1 with h | ⟨g, o, e, h⟩
        · simp at h
        · refine ⟨g, o, e, ?_⟩
          have h1 := h 0 (by simp)
          simpa using h1
      clear hs1 hR2 hg2 CT
      by_cases h0 : cb = 0
      case pos =>
        subst h0
        have HRS : Hid (RES = .ok acc (b.drop (kk + 1))) := by
          show RES = _
          rw [← HE1.out, if_pos rfl]
        obtain ⟨hh, xs, hf⟩ := HL2.out.fs
        obtain ⟨a8, c8, rfl, hc8, hfi⟩ := hf.fields (Q' := fun g => w.heap.size ≤ g) (fun g hq => Nat.le_of_lt hq) (fun g hq _ => hq)
        have HFI := Lib.hid hfi
        clear hf hfi
        go_wp2_with fail
        go_ret2
        unfold RPost
        rw [HRS.out]
        exact ⟨_, kk + 1, rfl, ⟨by omega, hh, a8, c8, rfl, hc8, HFI.out⟩, rfl, HL2.out.rd, HL2.out.gw⟩
      case neg =>
        have h0i : ((cb : Int) == 0) = false := by rw [beq_eq_false_iff_ne]; omega
        have h0j : ¬ (cb : Int) = 0 := by omega
        have h0k : (cb == 0) = false := by rw [beq_eq_false_iff_ne]; exact h0
        have CO := Lib.hid (readingOf_any cb w2)
        cases hf : fnOf cb with
        | none =>
          have HRS : Hid (RES = .err 9) := by
            show RES = _
            rw [← HE1.out, if_neg h0, if_pos (by rw [fnOf_known, hf]; rfl)]
          rw [hf] at CO
          unfold fnV at CO
          clear hf
          go_wp2_with fail
          refine CO.out.mono ?_
          rintro e w3 ⟨rfl, rfl⟩
          go_wp2_with fail
          go_ret2
          unfold RPost
          rw [HRS.out]
          exact ⟨rfl, HL2.out.gw⟩
        | some fn =>
          have HFN := Lib.hid hf
          have hkn : Bson.known cb = true := by rw [fnOf_known, hf]; rfl
          rw [hf] at CO
          unfold fnV at CO
          have HE2 : Hid (((Bson.name (b.drop (kk + 1))).bind fun s r2 => if list = true ∧ s ≠ Bson.digits acc.length then .err 4 else if acc.any (fun p => decide (p.1 = s)) = true then .err 6 else ((Bson.valOf (Bson.doc d false none) (Bson.doc d true none)) cb r2).bind fun v r3 => Bson.loop (Bson.valOf (Bson.doc d false none) (Bson.doc d true none)) list g2 (acc ++ [(s, v)]) r3) = RES) := by
            show _ = RES
            rw [← HE1.out, if_neg h0, if_neg (by rw [hkn]; decide)]
          have CN := Lib.hid (name_any w2 gr ba bc b (kk + 1) HL2.out.rd hne (HW.out w2 HL2.out.gw).t8)
          clear hf hkn HE1
          cases hres : Bson.name (b.drop (kk + 1)) with
          | err n =>
            have hn0 := Bson.told_name _ n hres
            have hni : ((n : Int) != 0) = true := by rw [bne_iff_ne]; omega
            have HRS : Hid (RES = .err n) := by
              show RES = _
              rw [← HE2.out, hres]; rfl
            have CNE := Lib.hid (CN.out.err n hres)
            clear hres CN
            go_wp2_with fail
            refine CO.out.mono ?_
            rintro e w3 ⟨rfl, rfl⟩
            go_wp2_with fail
            refine CNE.out.mono ?_
            rintro e w3 ⟨rfl, hg3⟩
            have HG3 := Lib.hid (grown_then HL2.out.gw hg3)
            clear hg3
            go_wp2_with fail
            go_ret2
            unfold RPost
            rw [HRS.out]
            exact ⟨rfl, HG3.out⟩
          | ok s r2 =>
            have hsh := Bson.name_short hres
            have hless3 := Bson.less_name (b.drop (kk + 1)) (Nat.le_refl _) s r2 hres
            have CNO := Lib.hid (CN.out.ok s r2 hres)
            have HE3 : Hid ((if list = true ∧ s ≠ Bson.digits acc.length then .err 4 else if acc.any (fun p => decide (p.1 = s)) = true then .err 6 else ((Bson.valOf (Bson.doc d false none) (Bson.doc d true none)) cb r2).bind fun v r3 => Bson.loop (Bson.valOf (Bson.doc d false none) (Bson.doc d true none)) list g2 (acc ++ [(s, v)]) r3) = RES) := by
              show _ = RES
              rw [← HE2.out, hres]; rfl
            clear hres CN HE2
            go_wp2_with fail
            refine CO.out.mono ?_
            rintro e w3 ⟨rfl, rfl⟩
            go_wp2_with fail
            refine CNO.out.mono ?_
            rintro e w3 ⟨vs, k3, rfl, rfl, rfl, hR3, hg3⟩
            have HL3 := Lib.hid (HL2.out.grown hgr hg3 hR3)
            have hk3 := hR3.le
            clear CNO CO hR3 hg3
            obtain ⟨hh, xs, hf0⟩ := HL3.out.fs
            obtain ⟨a8, c8, rfl, hc8, -⟩ := hf0.fields (Q' := fun g => w.heap.size ≤ g) (fun g hq => Nat.le_of_lt hq) (fun g hq _ => hq)
            clear hf0
            obtain ⟨n8, hn8⟩ : ∃ n, n = acc.length := ⟨_, rfl⟩
            have HN8 := Lib.hid hn8
            skip
            have hacc6 : acc.length ≤ 65536 := by omega
            obtain ⟨bb, hbb⟩ : ∃ bb : Bool, (bb = true ↔ (list = true ∧ s ≠ Bson.digits acc.length)) := by
              by_cases hc : list = true ∧ s ≠ Bson.digits acc.length
              · exact ⟨true, by simp [hc]⟩
              · exact ⟨false, by simp only [Bool.false_eq_true, false_iff]; exact hc⟩
            have HBB := Lib.hid hbb
            clear hbb
            go_upto_region 14 with fail
            go_cut [49] from 42 to 48 (fun u W => u = .bool bb ∧ Hid (FLoop w gr ba bc b k3 acc (.slice a8 acc.length c8) W))
            case first =>
              cases list with
              | false =>
                obtain rfl : bb = false := by
                  cases bb with
                  | false => rfl
                  | true => exact absurd (HBB.out.1 rfl).1 (by decide)
                go_wp2_with fail
                go_meet
                exact ⟨rfl, HL3⟩
              | true =>
                have CI := Lib.hid (fun w ht => Tryd.strconv_Itoa (acc.length : Int) (by omega) (by omega) w ht)
                rw [itoa_digits] at CI
                obtain ⟨dg, hdg⟩ : ∃ x, x = Bson.digits acc.length := ⟨_, rfl⟩
                rw [← hdg] at CI
                have HDG := Lib.hid hdg
                clear hdg
                by_cases hs : s = dg
                · subst hs
                  obtain rfl : bb = false := by
                    cases bb with
                    | false => rfl
                    | true => exact absurd HDG.out (HBB.out.1 rfl).2
                  have hss : (s.toList == s.toList) = true := by simp
                  go_wp2_with fail
                  refine (CI.out _ (HW.out _ HL3.out.gw).p10).mono ?_
                  rintro e w4 ⟨rfl, kk4, os4, hw4⟩
                  have hb4 : Below w3.heap.size w3 w4 := hw4 ▸ below_grow (Go.below_drewN (Below.refl _ _) kk4) os4 (Nat.le_refl _)
                  have HL4 := Lib.hid (HL3.out.grown hgr (grown_of_below hb4 gr) (HL3.out.rd.keep hb4))
                  clear hw4 hb4
                  go_wp2_with fail
                  go_meet
                  exact ⟨rfl, HL4⟩
                · obtain rfl : bb = true := HBB.out.2 ⟨rfl, by rw [← HDG.out]; exact hs⟩
                  have hss := str_ne hs
                  go_wp2_with fail
                  refine (CI.out _ (HW.out _ HL3.out.gw).p10).mono ?_
                  rintro e w4 ⟨rfl, kk4, os4, hw4⟩
                  have hb4 : Below w3.heap.size w3 w4 := hw4 ▸ below_grow (Go.below_drewN (Below.refl _ _) kk4) os4 (Nat.le_refl _)
                  have HL4 := Lib.hid (HL3.out.grown hgr (grown_of_below hb4 gr) (HL3.out.rd.keep hb4))
                  clear hw4 hb4
                  go_wp2_with fail
                  go_meet
                  exact ⟨rfl, HL4⟩
            case rest =>
              obtain ⟨rfl, HL4⟩ := hcut
              cases bb with
              | true =>
                have HRS : Hid (RES = .err 4) := by
                  show RES = _
                  rw [← HE3.out, if_pos (HBB.out.1 rfl)]
                go_wp2_with fail
                go_ret2
                unfold RPost
                rw [HRS.out]
                exact ⟨rfl, HL4.out.gw⟩
              | false =>
                have HE4 : Hid ((if acc.any (fun p => decide (p.1 = s)) = true then .err 6 else ((Bson.valOf (Bson.doc d false none) (Bson.doc d true none)) cb (b.drop k3)).bind fun v r3 => Bson.loop (Bson.valOf (Bson.doc d false none) (Bson.doc d true none)) list g2 (acc ++ [(s, v)]) r3) = RES) := by
                  show _ = RES
                  rw [← HE3.out, if_neg (fun hh => absurd (HBB.out.2 hh) (by decide))]
                clear HE3
                have CH : Hid (∀ W, FLoop w gr ba bc b k3 acc (.slice a8 acc.length c8) W → Calls Tryd.prog 39 #[.pointer (some ⟨w.heap.size, 0, none⟩), .slice a8 acc.length c8, .string s] W fun e w' => e = .returned (.bool (hasName acc s)) ∧ HMove w.heap.size W w' ∧ Nms w' w.heap.size acc) := fun W hF => by
                  obtain ⟨hh2, xs2, hf2⟩ := hF.fs
                  obtain ⟨a9, c9, e9, hc9, hfi⟩ := hf2.fields (Q' := fun _ => True) (fun _ _ => trivial) (fun _ _ _ => trivial)
                  injection e9 with e9a _ e9c
                  subst e9a
                  subst e9c
                  exact hold_any (fun _ => True) hh2 W w.heap.size a8 acc.length c8 acc s rfl (by omega) hc9.1 hc9.2 (by omega) hfi hF.nd hF.nm
                have CH1 := Lib.hid (CH.out wc HL4.out)
                clear CH
                cases hhn : hasName acc s with
                | true =>
                  rw [hhn] at CH1
                  have HRS : Hid (RES = .err 6) := by
                    show RES = _
                    rw [← HE4.out, if_pos (show (acc.any fun p => decide (p.1 = s)) = true from hhn)]
                  clear hhn
                  go_wp2_with fail
                  refine CH1.out.mono ?_
                  rintro e w5 ⟨rfl, hm5, hn5⟩
                  have HL5 := Lib.hid (HL4.out.held HR.out hm5 hn5)
                  clear hm5 hn5
                  go_wp2_with fail
                  go_ret2
                  unfold RPost
                  rw [HRS.out]
                  exact ⟨rfl, HL5.out.gw⟩
                | false =>
                  rw [hhn] at CH1
                  have HE5 : Hid ((((Bson.valOf (Bson.doc d false none) (Bson.doc d true none)) cb (b.drop k3)).bind fun v r3 => Bson.loop (Bson.valOf (Bson.doc d false none) (Bson.doc d true none)) list g2 (acc ++ [(s, v)]) r3) = RES) := by
                    show _ = RES
                    rw [← HE4.out, if_neg (by show ¬ hasName acc s = true; rw [hhn]; decide)]
                  have HNM : Hid (s ∉ acc.map (·.1)) := by
                    intro hm
                    obtain ⟨p, hp, hps⟩ := List.mem_map.1 hm
                    have h1 : hasName acc s = true := List.any_eq_true.2 ⟨p, hp, decide_eq_true hps⟩
                    rw [hhn] at h1; cases h1
                  clear hhn HE4
                  go_wp2_with fail
                  refine CH1.out.mono ?_
                  rintro e w5 ⟨rfl, hm5, hn5⟩
                  have HL5 := Lib.hid (HL4.out.held HR.out hm5 hn5)
                  clear hm5 hn5 CH1
                  have CV := Lib.hid (VAL.out cb fn HFN.out w5 k3 HL5.out.rd (HW.out w5 HL5.out.gw))
                  have hcf := fun args W => callF HFN.out args W
                  cases hv : (Bson.valOf (Bson.doc d false none) (Bson.doc d true none)) cb (b.drop k3) with
                  | err n =>
                    have hn0 := Bson.told_valOf (Bson.told_doc d false none) (Bson.told_doc d true none) _ _ n hv
                    have hni : ((n : Int) != 0) = true := by rw [bne_iff_ne]; omega
                    have HRS : Hid (RES = .err n) := by
                      show RES = _
                      rw [← HE5.out, hv]; rfl
                    have CVE := Lib.hid (CV.out.err n hv)
                    unfold ErrPost zeroV at CVE
                    clear hv CV
                    go_wp2_with fail
                    refine CVE.out.mono ?_
                    rintro e w6 ⟨rfl, hg6⟩
                    have HG6 := Lib.hid (grown_then HL5.out.gw hg6)
                    clear hg6
                    go_wp2_with fail
                    go_ret2
                    unfold RPost
                    rw [HRS.out]
                    exact ⟨rfl, grown_then HG6.out (grown_of_below ((Below.refl _ _).alloc (Nat.le_refl _) _) gr)⟩
                  | ok y r3 =>
                    have hless := Bson.less_valOf cb (b.drop k3) (Nat.le_refl _) y r3 hv
                    have HE6 : Hid (Bson.loop (Bson.valOf (Bson.doc d false none) (Bson.doc d true none)) list g2 (acc ++ [(s, y)]) r3 = RES) := by
                      show _ = RES
                      rw [← HE5.out, hv]; rfl
                    have CVO := Lib.hid (CV.out.ok y r3 hv)
                    clear hv CV HE5
                    go_wp2_with fail
                    refine CVO.out.mono ?_
                    rintro e w6 ⟨vy, k6, rfl, ⟨hy, hvy⟩, rfl, hR6, hg6⟩
                    obtain ⟨q1, q2, q3, a1, n1, c1x, a2, n2, c2, a3, n3, c3, rfl⟩ := VIn.form hvy
                    have hk6 := hR6.le
                    have hkk : kk + 1 ≤ k3 ∧ k3 ≤ k6 := by
                      rw [List.length_drop, List.length_drop] at hless
                      rw [List.length_drop, List.length_drop] at hless3
                      omega
                    have HL6 := Lib.hid (HL5.out.grown hgr hg6 hR6)
                    have HVY := Lib.hid hvy
                    clear hR6 hg6 hvy CVO hless hless3
                    obtain ⟨hh6, xs6, hf6⟩ := HL6.out.fs
                    have HF6 := Lib.hid hf6
                    have hl5 : ∀ g, (Value.slice a8 acc.length c8).ownBlock = some g → g < w5.heap.size := fun g e => by
                      obtain ⟨_, _, hf5⟩ := HL5.out.fs
                      exact (hf5.own.lt g e).2
                    have HL5B := Lib.hid hl5
                    have hsz5 := HL5.out.sz
                    have hsz6 := HL6.out.sz
                    have HBB6 : Hid (Below w6.heap.size w6 ((w6.alloc (.cells #[.int .i64 q1, .int .i64 q2, .string q3, .slice a1 n1 c1x, .slice a2 n2 c2, .slice a3 n3 c3] 28)).alloc (.cells #[.string s, .int .i64 q1, .int .i64 q2, .string q3, .slice a1 n1 c1x, .slice a2 n2 c2, .slice a3 n3 c3] 35))) := ((Below.refl _ w6).alloc (Nat.le_refl _) _).alloc (by simp) _
                    have hown6 : ((w6.alloc (.cells #[.int .i64 q1, .int .i64 q2, .string q3, .slice a1 n1 c1x, .slice a2 n2 c2, .slice a3 n3 c3] 28)).alloc (.cells #[.string s, .int .i64 q1, .int .i64 q2, .string q3, .slice a1 n1 c1x, .slice a2 n2 c2, .slice a3 n3 c3] 35)).ownsRow w.heap.size 35 7 (.slice a8 acc.length c8) acc.length xs6 := owns_below hf6.own HBB6.out
                    have HOWN6 := Lib.hid hown6
                    have hnw := sevenNew (w6.alloc (.cells #[.int .i64 q1, .int .i64 q2, .string q3, .slice a1 n1 c1x, .slice a2 n2 c2, .slice a3 n3 c3] 28)) (.string s) (.int .i64 q1) (.int .i64 q2) (.string q3) (.slice a1 n1 c1x) (.slice a2 n2 c2) (.slice a3 n3 c3) 35
                    rw [show (w6.alloc (.cells #[.int .i64 q1, .int .i64 q2, .string q3, .slice a1 n1 c1x, .slice a2 n2 c2, .slice a3 n3 c3] 28)).heap.size = w6.heap.size + 1 by simp] at hnw
                    have HNW := Lib.hid hnw
                    clear hf6 hl5 hown6 hnw
                    go_upto_region 21 with fail
                    clear hcf qf qn hdw h0i h0j h0k
                    refine wp_region_lit ?_
                    go_wp2_with (at_builtin; refine wpList_append_sz _ rfl (.tmp 64) (.tmp 68) 25 rfl w.heap.size 35 i0 (.agg #[.string ⟨#[]⟩, .int .i64 0, .int .i64 0, .string ⟨#[]⟩, .slice none 0 0, .slice none 0 0, .slice none 0 0]) 7 120 Tryd.underlying25 hi hz0 hz1 hz2 rfl (.slice a8 acc.length c8) acc.length xs6 rfl HOWN6.out ⟨w6.heap.size + 1, 0, none⟩ 1 1 [.string s, .int .i64 q1, .int .i64 q2, .string q3, .slice a1 n1 c1x, .slice a2 n2 c2, .slice a3 n3 c3] rfl rfl (by decide) (by decide) HNW.out (sevenOne _ _ _ _ _ _ _ _ _ _ _ _ _) (by unfold maxLen; omega) (by omega) ?c6 ?_)
                    case c6 => simp; omega
                    intro v9 w9 hown9 hlies9
                    have HL9 : Hid (FLoop w gr ba bc b k6 (acc ++ [(s, y)]) v9 w9) := HL6.out.pushed HR.out HF6.out HBB6.out (Wrote.of_lies hlies9) hown9 hsh ((HVY.out.kept (Kept.of_below HBB6.out) (fun g hg => ⟨by omega, fun e => by have := HL5B.out g e; omega⟩))) HNM.out
                    clear hown9 hlies9
                    go_wp2_with fail
                    go_roundw
                    case rel => exact ⟨k6, g2, _, v9, rfl, HL9, HE6, by omega, by rw [List.length_append]; simp; omega⟩
                    case measure =>
                      rw [HL9.out.rd.pos, hpos]
                      omega
end Go.Proofs.YtdihelpimpkfoaaDoor
end
