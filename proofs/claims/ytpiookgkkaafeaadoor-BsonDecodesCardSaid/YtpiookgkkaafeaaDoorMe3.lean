/- RefRDocF, RefRDocT, RefRDoc, RefRDecode, BsonDecodesWalk. -/
import Derived.Deep.CutRange
import Derived.Test.YtpiookgkkaafeaaDoorMe2
import Derived.Test.YtpiookgkkaafeaaDoorMg36
import Derived.Test.YtpiookgkkaafeaaDoorMg30
import Derived.Test.YtpiookgkkaafeaaDoorMg7
import Derived.Test.YtpiookgkkaafeaaDoorMg16
import Derived.Test.YtpiookgkkaafeaaDoorMg10
set_option maxRecDepth 100000
section
namespace Go.Proofs.YtpiookgkkaafeaaDoor
open Go.RowKit
open Seal
open Bson (Val Res)
theorem RDLoop.newF {w : World} {gr bc k : Nat} {ba : Option Addr} {b : List Nat} (hR : RdE w gr ba bc b k 0) : RDLoop false w gr ba bc b k 0 [] (.slice none 0 0) (.slice none 0 0) ((w.alloc (.cells zeroCs 27)).alloc (.cells #[.int .i64 6, .int .i64 0, .string ⟨#[]⟩, .slice none 0 0, .slice none 0 0, .slice none 0 0] 27)) := by
  have hb1 : Below w.heap.size w (w.alloc (.cells zeroCs 27)) := (Below.refl _ w).alloc (Nat.le_refl _) _
  have hb2 : Below w.heap.size w ((w.alloc (.cells zeroCs 27)).alloc (.cells #[.int .i64 6, .int .i64 0, .string ⟨#[]⟩, .slice none 0 0, .slice none 0 0, .slice none 0 0] 27)) := hb1.alloc (by simp) _
  have hs : (w.alloc (.cells zeroCs 27)).heap.size = w.heap.size + 1 := by simp
  have hn := heap_alloc_new (w.alloc (.cells zeroCs 27)) (.cells #[.int .i64 6, .int .i64 0, .string ⟨#[]⟩, .slice none 0 0, .slice none 0 0, .slice none 0 0] 27)
  rw [hs] at hn
  refine ⟨hR.lt, hR.keep hb2, ?_, hn, fun h => ⟨rfl, 0, [], FAcc.nil _ _ _ _⟩, fun h => ⟨rfl, 0, [], Acc.nil _ _ _ _⟩, fun _ i hi => absurd hi (by simp), grown_below hb2 gr, by simp, by simp, k, hR⟩
  have hf : Fresh w (w.alloc (.cells zeroCs 27)) := Fresh.new w
  show ((w.alloc (.cells zeroCs 27)).alloc (.cells #[.int .i64 6, .int .i64 0, .string ⟨#[]⟩, .slice none 0 0, .slice none 0 0, .slice none 0 0] 27)).heap[w.heap.size]? = _
  rw [Below.heap_alloc _ _ _ (by simp)]
  exact hf
theorem res_ok_bindF {α β : Type} (x : α) (r : List Nat) (f : α → List Nat → Res β) : (Res.ok x r).bind f = f x r := rfl
theorem RDLoop.name {w wr : World} {gr bc k e : Nat} {ba : Option Addr} {b : List Nat} {acc : List (ByteArray × Val)} {aF : Option Addr} {nF cF : Nat} {vL : Value} (h : RDLoop false w gr ba bc b k e acc (.slice aF nF cF) vL wr) : acc = [] ∨ ∃ g o, aF = some ⟨g, o, none⟩ ∧ ∀ i (hi : i < acc.length), wr.cell? ⟨g, o + i * 7, none⟩ = some (.string acc[i].1) := by
  obtain ⟨-, hh, xs, hf⟩ := h.rf rfl
  obtain ⟨a, c, e, hc, hfi⟩ := hf.fields (Q' := fun _ => True) (fun _ _ => trivial) (fun _ _ _ => trivial)
  injection e with e1 e2 e3
  subst e1
  rcases hfi with h | ⟨g, o, e, _, h⟩
  · exact .inl h
  · exact .inr ⟨g, o, e, fun i hi => (h i hi).1⟩
set_option maxRecDepth 100000 in
set_option maxHeartbeats 4000000 in
theorem rdocF (d : Nat) (w : World) (gr : Nat) (ba : Option Addr) (bc : Nat) (b : List Nat) (k : Nat) (dp : Int) (hd0 : 1 ≤ dp) (hd1 : dp ≤ 32) (hR : RdE w gr ba bc b k 0)
    (VAL : ∀ (c : Nat) (W : World) (k2 : Nat), RdE W gr ba bc b k2 0 → Calls Tryd.prog 48 #[.pointer (some ⟨gr, 0, none⟩), .int .u8 (c : Int), .int .i64 dp] W (RPostE W.heap.size W gr ba bc b ((Bson.valOf (Bson.doc d false none) (Bson.doc d true none)) c (b.drop k2)))) :
    Calls Tryd.prog 24 #[.pointer (some ⟨gr, 0, none⟩), .bool false, .int .i64 dp] w (RPostE w.heap.size w gr ba bc b (Bson.doc (d + 1) false (if dp = 1 then some b.length else none) (b.drop k))) := by
  obtain ⟨i0, hi, hz0, hz1, hz2⟩ := info_parts infoFd
  have hlt := hR.lt
  have hd3 : ¬ (32 : Int) < dp := by omega
  have hlen := hR.len
  have hcap := hR.cap
  have hmax := hR.max
  have hle := hR.le
  have HD1 : Hid _ := Lib.hid (RDLoop.newF hR)
  have VAL := Lib.hid VAL
  obtain ⟨RES, hRES⟩ : ∃ r, r = Bson.doc (d + 1) false (if dp = 1 then some b.length else none) (b.drop k) := ⟨_, rfl⟩
  rw [← hRES]
  have HRES := Lib.hid hRES
  clear hR hRES
  go_enter Tryd.func24, Tryd.ntmps24
  go_upto_region 4 with fail
  generalize ((w.alloc (.cells zeroCs 27)).alloc (.cells #[.int .i64 6, .int .i64 0, .string ⟨#[]⟩, .slice none 0 0, .slice none 0 0, .slice none 0 0] 27)) = w1 at *
  have c1 := HD1.out.rd.c1
  by_cases h4 : b.length < k + 4
  · have HRS : Hid (RES = .err 2) := by
      show _ = _
      rw [HRES.out]; unfold Bson.doc Bson.take; rw [if_pos (by simp; omega)]; rfl
    have CN := Lib.hid (need_no _ gr ba bc b k 4 HD1.out.rd (by decide) h4)
    clear h4
    go_wp2_with fail
    refine CN.out.mono ?_
    rintro e w2 ⟨rfl, hr2, hg2⟩
    have HD2 := Lib.hid (HD1.out.grown hg2 hr2 (Nat.le_refl _))
    clear hr2 hg2
    obtain ⟨b0, b1, b2, b3, b4, b5⟩ := HD2.out.box
    replace b0 : w2.cell? ⟨w.heap.size + 1, 0, none⟩ = some (.int .i64 6) := b0
    obtain ⟨d0, f0⟩ := HD2.out.fr.cells 0 _ rfl
    obtain ⟨d1, f1⟩ := HD2.out.fr.cells 1 _ rfl
    obtain ⟨d2, f2⟩ := HD2.out.fr.cells 2 _ rfl
    obtain ⟨d3, f3⟩ := HD2.out.fr.cells 3 _ rfl
    obtain ⟨d4, f4⟩ := HD2.out.fr.cells 4 _ rfl
    obtain ⟨d5, f5⟩ := HD2.out.fr.cells 5 _ rfl
    go_wp2_with fail
    rw [HRS.out]
    exact bodyPost_ret (v := .agg #[.int .i64 6, .int .i64 0, .string ⟨#[]⟩, .slice none 0 0, .slice none 0 0, .slice none 0 0]) (by simp [results, Tryd.results24, go_sem, *]) rfl HD2.out.err
  · have CY := Lib.hid (need_ok _ gr ba bc b k 4 HD1.out.rd (by omega))
    have hx4 : ((b.drop k).take 4).length = 4 := by simp; omega
    have ho4 : Oct ((b.drop k).take 4) := fun c hc => HD1.out.rd.oct c (List.mem_of_mem_drop (List.mem_of_mem_take hc))
    obtain ⟨hu32, hi32, hi64, hs0, hs1⟩ := conv_i32 _ hx4 ho4
    have HE0 : Hid ((if Bson.signed ((b.drop k).take 4) < 5 ∨ (∃ n : Nat, (if dp = 1 then some b.length else none) = some n ∧ Bson.signed ((b.drop k).take 4) ≠ (n : Int)) then .err 4 else (Bson.loop (Bson.valOf (Bson.doc d false none) (Bson.doc d true none)) false ((b.drop (k + 4)).length + 1) [] (b.drop (k + 4))).bind fun fs r' => if ((b.drop k).length : Int) - r'.length ≠ Bson.signed ((b.drop k).take 4) then .err 4 else .ok (Bson.shut false fs) r') = RES) := by
      show _ = _
      rw [HRES.out]
      rw [Bson.doc, show Bson.take 4 (b.drop k) = .ok ((b.drop k).take 4) (b.drop (k + 4)) by unfold Bson.take; rw [if_neg (by simp; omega), List.drop_drop]]
      rfl
    have CG0 := Lib.hid (fun (W : World) (hs : SliceIs W ba b) => get_any W ba b.length bc k 4 b rfl (by decide) (by decide) (by omega) HD1.out.rd.len HD1.out.rd.oct hs)
    generalize Bson.signed ((b.drop k).take 4) = sg at *
    generalize Bson.leN ((b.drop k).take 4) = x4 at *
    have hk4 : k + 4 ≤ b.length := by omega
    have HK4 := Lib.hid hk4
    clear h4 hx4 ho4 HRES
    go_wp2_with fail
    refine CY.out.mono ?_
    rintro e w2 ⟨rfl, hr2, hg2⟩
    have HD2 := Lib.hid (HD1.out.grown hg2 hr2 (Nat.le_refl _))
    clear hr2 hg2 CY c1
    obtain ⟨L, hL⟩ : ∃ L, L = b.length := ⟨_, rfl⟩
    have HL := Lib.hid hL
    have c0 := HD2.out.rd.c0
    have c1 := HD2.out.rd.c1
    have CG : Hid (∀ q, Calls Tryd.prog 43 #[.slice ba L bc, .int .i64 (k : Int), .int .i64 4] (w2.drewN q) fun e w' => e = .returned (.int .u64 (x4 : Int)) ∧ w2.drewN q = w') := fun q => by rw [hL]; exact CG0.out _ (HD2.out.rd.dr q).rd
    rw [← hL] at c0 hk4 hcap hlen hle
    clear hL CG0
    go_wp2_with fail
    go_quiet ((go_at_call 43; exact Calls.quiet_of_same ((CG.out _).mono fun _ _ h => ⟨h.1, h.2.symm⟩)))
    have HD3 := Lib.hid (HD2.out.dr nq)
    clear c0 c1 CG
    generalize w2.drewN nq = w3 at *
    have c1 := HD3.out.rd.c1
    have f1 := HD3.out.rd.frz 1
    have hkw : IntKind.i64.wrap ((k : Int) + 4) = (k : Int) + 4 := IntWalk.i64_in _ (by omega)
    go_upto_region 11 with fail
    have hs4 := HD3.out.setAt (k + 4) HK4.out (by omega)
    have e4 : ((k + 4 : Nat) : Int) = (k : Int) + 4 := by omega
    rw [e4] at hs4
    have HD4 := Lib.hid hs4
    clear hs4 e4 c1 f1 hkw
    generalize w3.setCell ⟨gr, 1, none⟩ (.int .i64 ((k : Int) + 4)) = w4 at *
    have c0 := HD4.out.rd.c0
    rw [← HL.out] at c0
    obtain ⟨bb, hbb⟩ : ∃ bb : Bool, (bb = true ↔ (sg < 5 ∨ (∃ n : Nat, (if dp = 1 then some b.length else none) = some n ∧ sg ≠ (n : Int)))) := by
      by_cases hc : (sg < 5 ∨ (∃ n : Nat, (if dp = 1 then some b.length else none) = some n ∧ sg ≠ (n : Int)))
      · exact ⟨true, by simp only [true_iff]; exact hc⟩
      · exact ⟨false, by simp only [Bool.false_eq_true, false_iff]; exact hc⟩
    have HBB := Lib.hid hbb
    clear hbb hu32 hi32 hi64
    go_cut [63] from 49 to 62 (fun u W => u = .bool bb ∧ W = w4)
    case first =>
      by_cases hn5 : sg < 5
      · obtain rfl : bb = true := HBB.out.2 (.inl hn5)
        go_wp2_with fail
        go_meet
        exact ⟨rfl, rfl⟩
      · have hn5d : decide (sg < 5) = false := decide_eq_false hn5
        by_cases h1 : dp = 1
        · subst h1
          by_cases hnb : sg = (L : Int)
          · obtain rfl : bb = false := by
              cases bb with
              | false => rfl
              | true =>
                rcases HBB.out.1 rfl with h | ⟨m, hm, hm2⟩
                · exact absurd h hn5
                · rw [if_pos rfl] at hm; injection hm with hm; exact absurd (by rw [← hm, ← HL.out]; exact hnb) hm2
            subst hnb
            go_wp2_with fail
            go_meet
            exact ⟨rfl, rfl⟩
          · obtain rfl : bb = true := HBB.out.2 (.inr ⟨b.length, if_pos rfl, by rw [← HL.out]; exact hnb⟩)
            have hnx : (sg != (L : Int)) = true := by rw [bne_iff_ne]; exact hnb
            go_wp2_with fail
            go_meet
            exact ⟨rfl, rfl⟩
        · have h1b : (dp == 1) = false := by rw [beq_eq_false_iff_ne]; exact h1
          obtain rfl : bb = false := by
            cases bb with
            | false => rfl
            | true =>
              rcases HBB.out.1 rfl with h | ⟨m, hm, hm2⟩
              · exact absurd h hn5
              · rw [if_neg h1] at hm; cases hm
          go_wp2_with fail
          go_meet
          exact ⟨rfl, rfl⟩
    case rest =>
      obtain ⟨rfl, rfl⟩ := hcut
      clear c0
      cases bb with
      | true =>
        have HRS : Hid (RES = .err 4) := by
          show RES = _
          rw [← HE0.out, if_pos (HBB.out.1 rfl)]
        go_wp2_with fail
        refine (bad_any _ gr _ bc b (k + 4) 4 HD4.out.rd).mono ?_
        rintro e w5 ⟨⟨v5, rfl⟩, hr5, hg5⟩
        have HD5 := Lib.hid (HD4.out.grown hg5 hr5 (Nat.le_refl _))
        clear hr5 hg5
        obtain ⟨b0, b1, b2, b3, b4, b5⟩ := HD5.out.box
        replace b0 : w5.cell? ⟨w.heap.size + 1, 0, none⟩ = some (.int .i64 6) := b0
        obtain ⟨d0, f0⟩ := HD5.out.fr.cells 0 _ rfl
        obtain ⟨d1, f1⟩ := HD5.out.fr.cells 1 _ rfl
        obtain ⟨d2, f2⟩ := HD5.out.fr.cells 2 _ rfl
        obtain ⟨d3, f3⟩ := HD5.out.fr.cells 3 _ rfl
        obtain ⟨d4, f4⟩ := HD5.out.fr.cells 4 _ rfl
        obtain ⟨d5, f5⟩ := HD5.out.fr.cells 5 _ rfl
        go_wp2_with fail
        rw [HRS.out]
        exact bodyPost_ret (v := .agg #[.int .i64 6, .int .i64 0, .string ⟨#[]⟩, .slice none 0 0, .slice none 0 0, .slice none 0 0]) (by simp [results, Tryd.results24, go_sem, *]) rfl HD5.out.err
      | false =>
        have HE1 : Hid ((Bson.loop (Bson.valOf (Bson.doc d false none) (Bson.doc d true none)) false ((b.drop (k + 4)).length + 1) [] (b.drop (k + 4))).bind (fun fs r' => if ((b.drop k).length : Int) - r'.length ≠ sg then .err 4 else .ok (Bson.shut false fs) r') = RES) := by
          show _ = RES
          rw [← HE0.out, if_neg (fun hh => absurd (HBB.out.2 hh) (by decide))]
        clear HE0 HBB
        go_wp2_with fail
        clear hd3
        obtain ⟨FIN, hFIN⟩ : ∃ f : List (ByteArray × Val) → List Nat → Res Val, f = fun fs r' => if ((b.drop k).length : Int) - r'.length ≠ sg then .err 4 else .ok (Bson.shut false fs) r' := ⟨_, rfl⟩
        rw [← hFIN] at HE1
        have HFIN := Lib.hid hFIN
        clear hFIN
        go_loopw [] (fun wr => ∃ (kk gas : Nat) (acc : List (ByteArray × Val)) (vF vL : Value), Hid (RDLoop false w gr ba bc b kk 0 acc vF vL wr) ∧ Hid ((Bson.loop (Bson.valOf (Bson.doc d false none) (Bson.doc d true none)) false gas acc (b.drop kk)).bind FIN = RES) ∧ b.length - kk < gas ∧ k + 4 ≤ kk ∧ acc.length ≤ kk) (fun W => b.length - posE W gr)
        case atStart => exact ⟨k + 4, _, [], _, _, HD4, HE1, by rw [List.length_drop]; omega, Nat.le_refl _, Nat.zero_le _⟩
        case round =>
          obtain ⟨kk, gas2, acc, vF, vL, HD6, HE, hgas2, hk4k, hacc⟩ := hrel
          clear HE1 HD4
          have hle6 := HD6.out.rd.le
          have hpos := HD6.out.rd.pos
          obtain ⟨g2, rfl⟩ : ∃ g2, gas2 = g2 + 1 := ⟨gas2 - 1, by omega⟩
          obtain ⟨aF, nF, cF, aL, nL, cL, rfl, rfl, hnF, hnL, hcF, hcL, hmF, hmL2, -⟩ := HD6.out.value
          have HNF := Lib.hid hnF
          have HNL := Lib.hid hnL
          clear hnF hnL
          generalize wr = w6 at *
          by_cases hk : b.length < kk + 1
          · have HRS : Hid (RES = .err 2) := by
              show RES = _
              rw [← HE.out, List.drop_of_length_le (by omega)]; rfl
            have CN := Lib.hid (need_no w6 gr ba bc b kk 1 HD6.out.rd (by decide) hk)
            clear hk HE
            go_wp2_with fail
            refine CN.out.mono ?_
            rintro e w7 ⟨rfl, hr7, hg7⟩
            have HD7 := Lib.hid (HD6.out.grown hg7 hr7 (Nat.le_refl _))
            clear hr7 hg7
            obtain ⟨b0, b1, b2, b3, b4, b5⟩ := HD7.out.box
            replace b0 : w7.cell? ⟨w.heap.size + 1, 0, none⟩ = some (.int .i64 6) := b0
            obtain ⟨d0, f0⟩ := HD7.out.fr.cells 0 _ rfl
            obtain ⟨d1, f1⟩ := HD7.out.fr.cells 1 _ rfl
            obtain ⟨d2, f2⟩ := HD7.out.fr.cells 2 _ rfl
            obtain ⟨d3, f3⟩ := HD7.out.fr.cells 3 _ rfl
            obtain ⟨d4, f4⟩ := HD7.out.fr.cells 4 _ rfl
            obtain ⟨d5, f5⟩ := HD7.out.fr.cells 5 _ rfl
            go_wp2_with fail
            rw [HRS.out]
            exact bodyPost_ret (v := .agg #[.int .i64 6, .int .i64 0, .string ⟨#[]⟩, .slice none 0 0, .slice aF nF cF, .slice aL nL cL]) (by simp [results, Tryd.results24, go_sem, *]) rfl HD7.out.err
          · have HLT : Hid (kk < b.length) := by show _ < _; omega
            have CY := Lib.hid (need_ok w6 gr ba bc b kk 1 HD6.out.rd (by omega))
            obtain ⟨g, o, rfl, -, hz256⟩ := HD6.out.rd.byteAt HLT.out
            obtain ⟨cb, hcb⟩ : ∃ c, c = b[kk]'HLT.out := ⟨_, rfl⟩
            have HCB := Lib.hid hcb
            rw [← hcb] at hz256
            have HE1 : Hid ((if cb = 0 then .ok acc (b.drop (kk + 1)) else if Bson.known cb = false then .err 9 else (Bson.name (b.drop (kk + 1))).bind fun s r2 => if false = true ∧ s ≠ Bson.digits acc.length then .err 4 else if acc.any (fun p => decide (p.1 = s)) = true then .err 6 else ((Bson.valOf (Bson.doc d false none) (Bson.doc d true none)) cb r2).bind fun v r3 => Bson.loop (Bson.valOf (Bson.doc d false none) (Bson.doc d true none)) false g2 (acc ++ [(s, v)]) r3 : Res (List (ByteArray × Val))).bind FIN = RES) := by
              show _ = RES
              rw [← HE.out, List.drop_eq_getElem_cons HLT.out, ← hcb]; rfl
            clear hcb HE hk
            go_wp2_with fail
            refine CY.out.mono ?_
            rintro e w7 ⟨rfl, hr7, hg7⟩
            have HD7 := Lib.hid (HD6.out.grown hg7 hr7 (Nat.le_refl _))
            clear hr7 hg7
            clear CY
            have hkL : kk + 1 ≤ L := by have := HLT.out; have := HL.out; omega
            have c0 := HD7.out.rd.c0
            have c1 := HD7.out.rd.c1
            rw [← HL.out] at c0
            have q0 := HD7.out.rd.byteHere HLT.out
            rw [← HCB.out] at q0
            have hk0 : (0 : Int) ≤ (kk : Int) := by omega
            have hk1 : (kk : Int) < (L : Int) := by omega
            have hkt : ((kk : Int)).toNat = kk := by omega
            have hkN : kk < L := by omega
            go_wp2_with fail
            go_quiet (fail)
            have HD8 := Lib.hid (HD7.out.dr nq)
            clear c0 c1 q0 hk0 hk1 hkt hkN
            generalize w7.drewN nq = w8 at *
            have c1 := HD8.out.rd.c1
            have f1 := HD8.out.rd.frz 1
            have hkw : IntKind.i64.wrap ((kk : Int) + 1) = (kk : Int) + 1 := IntWalk.i64_in _ (by omega)
            go_upto_region 18 with fail
            have hs4 := HD8.out.setAt (kk + 1) HLT.out (by omega)
            have e4 : ((kk + 1 : Nat) : Int) = (kk : Int) + 1 := by omega
            rw [e4] at hs4
            have HD9 := Lib.hid hs4
            clear hs4 e4 c1 f1 hkw
            generalize w8.setCell ⟨gr, 1, none⟩ (.int .i64 ((kk : Int) + 1)) = w9 at *
            by_cases h0 : cb = 0
            · subst h0
              have c1 : w9.cell? ⟨gr, 1, none⟩ = some (.int .i64 ((kk : Int) + 1)) := by have := HD9.out.rd.c1; rwa [show ((kk + 1 : Nat) : Int) = (kk : Int) + 1 by omega] at this
              have hsub : IntKind.i64.wrap ((kk : Int) + 1 - (k : Int)) = (kk : Int) + 1 - (k : Int) := IntWalk.i64_in _ (by omega)
              have HE2 : Hid ((if (kk : Int) + 1 - (k : Int) ≠ sg then .err 4 else .ok (Bson.shut false acc) (b.drop (kk + 1))) = RES) := by
                show _ = RES
                rw [← HE1.out, if_pos rfl]
                show _ = FIN acc (b.drop (kk + 1))
                rw [HFIN.out]
                have hln : ((b.drop k).length : Int) - (b.drop (kk + 1)).length = (kk : Int) + 1 - k := by have := HL.out; rw [List.length_drop, List.length_drop]; omega
                show _ = (if ((b.drop k).length : Int) - (b.drop (kk + 1)).length ≠ sg then _ else _ : Res Val)
                rw [hln]
              by_cases hx : (kk : Int) + 1 - (k : Int) = sg
              · subst hx
                have HRS : Hid (RES = .ok (Bson.shut false acc) (b.drop (kk + 1))) := by
                  show RES = _
                  rw [← HE2.out, if_neg (by simp)]
                obtain ⟨b0, b1, b2, b3, b4, b5⟩ := HD9.out.box
                replace b0 : w9.cell? ⟨w.heap.size + 1, 0, none⟩ = some (.int .i64 6) := b0
                obtain ⟨d0, f0⟩ := HD9.out.fr.cells 0 _ rfl
                obtain ⟨d1, f1⟩ := HD9.out.fr.cells 1 _ rfl
                obtain ⟨d2, f2⟩ := HD9.out.fr.cells 2 _ rfl
                obtain ⟨d3, f3⟩ := HD9.out.fr.cells 3 _ rfl
                obtain ⟨d4, f4⟩ := HD9.out.fr.cells 4 _ rfl
                obtain ⟨d5, f5⟩ := HD9.out.fr.cells 5 _ rfl
                go_wp2_with fail
                rw [HRS.out]
                exact bodyPost_ret (v := .agg #[.int .i64 6, .int .i64 0, .string ⟨#[]⟩, .slice none 0 0, .slice aF nF cF, .slice aL nL cL]) (by simp [results, Tryd.results24, go_sem, *]) rfl HD9.out.ok
              · have hxb : ((kk : Int) + 1 - (k : Int) != sg) = true := by rw [bne_iff_ne]; exact hx
                have HRS : Hid (RES = .err 4) := by
                  show RES = _
                  rw [← HE2.out, if_pos hx]
                go_wp2_with fail
                refine (bad_any w9 gr _ bc b (kk + 1) 4 HD9.out.rd).mono ?_
                rintro e w10 ⟨⟨v10, rfl⟩, hr10, hg10⟩
                clear c1
                have HD10 := Lib.hid (HD9.out.grown hg10 hr10 (Nat.le_refl _))
                clear hr10 hg10
                obtain ⟨b0, b1, b2, b3, b4, b5⟩ := HD10.out.box
                replace b0 : w10.cell? ⟨w.heap.size + 1, 0, none⟩ = some (.int .i64 6) := b0
                obtain ⟨d0, f0⟩ := HD10.out.fr.cells 0 _ rfl
                obtain ⟨d1, f1⟩ := HD10.out.fr.cells 1 _ rfl
                obtain ⟨d2, f2⟩ := HD10.out.fr.cells 2 _ rfl
                obtain ⟨d3, f3⟩ := HD10.out.fr.cells 3 _ rfl
                obtain ⟨d4, f4⟩ := HD10.out.fr.cells 4 _ rfl
                obtain ⟨d5, f5⟩ := HD10.out.fr.cells 5 _ rfl
                go_wp2_with fail
                rw [HRS.out]
                exact bodyPost_ret (v := .agg #[.int .i64 6, .int .i64 0, .string ⟨#[]⟩, .slice none 0 0, .slice aF nF cF, .slice aL nL cL]) (by simp [results, Tryd.results24, go_sem, *]) rfl HD10.out.err
            · have h0i : ((cb : Int) == 0) = false := by rw [beq_eq_false_iff_ne]; omega
              have h0j : ¬ (cb : Int) = 0 := by omega
              have h0k : (cb == 0) = false := by rw [beq_eq_false_iff_ne]; exact h0
              have CK := Lib.hid (known_any cb w9 h0)
              cases hkn : Bson.known cb with
              | false =>
                have HRS : Hid (RES = .err 9) := by
                  show RES = _
                  rw [← HE1.out, if_neg h0, if_pos hkn]; rfl
                rw [hkn] at CK
                clear hkn
                go_wp2_with fail
                refine CK.out.mono ?_
                rintro e w10 ⟨rfl, hw⟩
                rw [hw]
                clear hw w10
                go_wp2_with fail
                refine (bad_any w9 gr _ bc b (kk + 1) 9 HD9.out.rd).mono ?_
                rintro e w10 ⟨⟨v10, rfl⟩, hr10, hg10⟩
                have HD10 := Lib.hid (HD9.out.grown hg10 hr10 (Nat.le_refl _))
                clear hr10 hg10
                obtain ⟨b0, b1, b2, b3, b4, b5⟩ := HD10.out.box
                replace b0 : w10.cell? ⟨w.heap.size + 1, 0, none⟩ = some (.int .i64 6) := b0
                obtain ⟨d0, f0⟩ := HD10.out.fr.cells 0 _ rfl
                obtain ⟨d1, f1⟩ := HD10.out.fr.cells 1 _ rfl
                obtain ⟨d2, f2⟩ := HD10.out.fr.cells 2 _ rfl
                obtain ⟨d3, f3⟩ := HD10.out.fr.cells 3 _ rfl
                obtain ⟨d4, f4⟩ := HD10.out.fr.cells 4 _ rfl
                obtain ⟨d5, f5⟩ := HD10.out.fr.cells 5 _ rfl
                go_wp2_with fail
                rw [HRS.out]
                exact bodyPost_ret (v := .agg #[.int .i64 6, .int .i64 0, .string ⟨#[]⟩, .slice none 0 0, .slice aF nF cF, .slice aL nL cL]) (by simp [results, Tryd.results24, go_sem, *]) rfl HD10.out.err
              | true =>
                have HE2 : Hid (((Bson.name (b.drop (kk + 1))).bind fun s r2 => if false = true ∧ s ≠ Bson.digits acc.length then .err 4 else if acc.any (fun p => decide (p.1 = s)) = true then .err 6 else ((Bson.valOf (Bson.doc d false none) (Bson.doc d true none)) cb r2).bind fun v r3 => Bson.loop (Bson.valOf (Bson.doc d false none) (Bson.doc d true none)) false g2 (acc ++ [(s, v)]) r3 : Res (List (ByteArray × Val))).bind FIN = RES) := by
                  show _ = RES
                  rw [← HE1.out, if_neg h0, if_neg (by rw [hkn]; decide)] <;> simp
                rw [hkn] at CK
                obtain ⟨i, hi⟩ : ∃ i, i = (b.drop (kk + 1)).findIdx (· == 0) := ⟨_, rfl⟩
                have CNM := Lib.hid (rname_any w9 gr _ bc b (kk + 1) i HD9.out.rd hi)
                have HI := Lib.hid hi
                clear hkn HE1 hi
                go_wp2_with fail
                refine CK.out.mono ?_
                rintro e w10 ⟨rfl, hw⟩
                rw [hw]
                clear hw w10 CK
                go_wp2_with fail
                refine CNM.out.mono ?_
                rintro e w10 ⟨hg10, hcase⟩
                rcases hcase with ⟨hi2, rfl, hr10⟩ | ⟨hi2, rfl, hr10⟩
                · have HRS : Hid (RES = .err 2) := by
                    show RES = _
                    rw [← HE2.out]
                    unfold Bson.name
                    rw [if_pos (by rw [← HI.out, List.length_drop]; omega)]; rfl
                  clear HE2 CNM
                  have HD10 := Lib.hid (HD9.out.grown hg10 hr10 (by omega))
                  clear hr10 hg10
                  have c2 : w10.cell? ⟨gr, 2, none⟩ = some (.int .i64 2) := HD10.out.rd.c2
                  obtain ⟨b0, b1, b2, b3, b4, b5⟩ := HD10.out.box
                  replace b0 : w10.cell? ⟨w.heap.size + 1, 0, none⟩ = some (.int .i64 6) := b0
                  obtain ⟨d0, f0⟩ := HD10.out.fr.cells 0 _ rfl
                  obtain ⟨d1, f1⟩ := HD10.out.fr.cells 1 _ rfl
                  obtain ⟨d2, f2⟩ := HD10.out.fr.cells 2 _ rfl
                  obtain ⟨d3, f3⟩ := HD10.out.fr.cells 3 _ rfl
                  obtain ⟨d4, f4⟩ := HD10.out.fr.cells 4 _ rfl
                  obtain ⟨d5, f5⟩ := HD10.out.fr.cells 5 _ rfl
                  go_wp2_with fail
                  go_loopw [12] (fun i wr => i = .int .i64 0 ∧ wr = w10) (fun _ _ => 0)
                  case atStart => exact ⟨rfl, rfl⟩
                  case round =>
                    obtain ⟨rfl, hwr⟩ := hrel
                    rw [hwr]
                    clear hwr
                    by_cases hn0 : 0 < nF
                    · have hn1 : (0 : Int) < (nF : Int) := by omega
                      go_wp2_with fail
                      rw [HRS.out]
                      exact bodyPost_ret (v := .agg #[.int .i64 6, .int .i64 0, .string ⟨#[]⟩, .slice none 0 0, .slice aF nF cF, .slice aL nL cL]) (by simp [results, Tryd.results24, go_sem, *]) rfl HD10.out.err
                    · have hn1 : ¬ (0 : Int) < (nF : Int) := by omega
                      go_wp2_with fail
                      rw [HRS.out]
                      exact bodyPost_ret (v := .agg #[.int .i64 6, .int .i64 0, .string ⟨#[]⟩, .slice none 0 0, .slice aF nF cF, .slice aL nL cL]) (by simp [results, Tryd.results24, go_sem, *]) rfl HD10.out.err
                · obtain ⟨s, hs⟩ : ∃ s, s = strB ((b.drop (kk + 1)).take i) := ⟨_, rfl⟩
                  rw [← hs]
                  obtain ⟨k2, hk2⟩ : ∃ k2, k2 = kk + 1 + i + 1 := ⟨_, rfl⟩
                  rw [← hk2] at hr10
                  have hssz : s.size = i := by
                    rw [hs]
                    have e : (strB ((b.drop (kk + 1)).take i)).size = ((b.drop (kk + 1)).take i).length := ofBytes_size _
                    rw [e, List.length_take, List.length_drop]; omega
                  have hi3 : i ≤ 65536 := by have := HD9.out.rd.len; omega
                  have hs47 : s.size ≤ 140737488355328 := by omega
                  have HE3 : Hid (((if Bson.u8 s = false then .err 5 else if 120 < i then .err 15 else .ok s (b.drop k2) : Res ByteArray).bind fun s r2 => if false = true ∧ s ≠ Bson.digits acc.length then .err 4 else if acc.any (fun p => decide (p.1 = s)) = true then .err 6 else ((Bson.valOf (Bson.doc d false none) (Bson.doc d true none)) cb r2).bind fun v r3 => Bson.loop (Bson.valOf (Bson.doc d false none) (Bson.doc d true none)) false g2 (acc ++ [(s, v)]) r3).bind FIN = RES) := by
                    show _ = RES
                    rw [← HE2.out]
                    have e : Bson.name (b.drop (kk + 1)) = (if Bson.u8 s = false then .err 5 else if 120 < i then .err 15 else .ok s (b.drop k2) : Res ByteArray) := by
                      unfold Bson.name
                      rw [if_neg (by rw [← HI.out, List.length_drop]; omega), ← HI.out, List.drop_drop, hs, hk2, Nat.add_assoc (kk + 1)]; rfl
                    rw [e] <;> simp
                  have HD10 := Lib.hid (HD9.out.grown hg10 hr10 (by omega))
                  clear hr10 hg10
                  have hkk2 : kk + 1 ≤ k2 := by omega
                  clear HE2 CNM hs hi2
                  have c2 : w10.cell? ⟨gr, 2, none⟩ = some (.int .i64 0) := HD10.out.rd.c2
                  go_wp2_with fail
                  refine (utf8ref_any s w10 hs47).mono ?_
                  rintro e w11 ⟨rfl, hb11⟩
                  have HD11 := Lib.hid (HD10.out.kept hb11)
                  clear hb11 c2
                  obtain ⟨u, hu⟩ : ∃ u, u = Lib.validD s.data.toList := ⟨_, rfl⟩
                  have HU : Hid (Bson.u8 s = u) := hu.symm
                  rw [← hu]
                  clear hu
                  cases u with
                  | false =>
                    have HRS : Hid (RES = .err 5) := by show RES = _; rw [← HE3.out, if_pos HU.out]; rfl
                    clear HE3
                    go_wp2_with fail
                    refine (bad_any w11 gr _ bc b k2 5 HD11.out.rd).mono ?_
                    rintro e w12 ⟨⟨v12, rfl⟩, hr12, hg12⟩
                    have HD12 := Lib.hid (HD11.out.grown hg12 hr12 (Nat.le_refl _))
                    clear hr12 hg12
                    have c2 : w12.cell? ⟨gr, 2, none⟩ = some (.int .i64 5) := HD12.out.rd.c2
                    obtain ⟨b0, b1, b2, b3, b4, b5⟩ := HD12.out.box
                    replace b0 : w12.cell? ⟨w.heap.size + 1, 0, none⟩ = some (.int .i64 6) := b0
                    obtain ⟨d0, f0⟩ := HD12.out.fr.cells 0 _ rfl
                    obtain ⟨d1, f1⟩ := HD12.out.fr.cells 1 _ rfl
                    obtain ⟨d2, f2⟩ := HD12.out.fr.cells 2 _ rfl
                    obtain ⟨d3, f3⟩ := HD12.out.fr.cells 3 _ rfl
                    obtain ⟨d4, f4⟩ := HD12.out.fr.cells 4 _ rfl
                    obtain ⟨d5, f5⟩ := HD12.out.fr.cells 5 _ rfl
                    go_wp2_with fail
                    go_loopw [12] (fun i wr => i = .int .i64 0 ∧ wr = w12) (fun _ _ => 0)
                    case atStart => exact ⟨rfl, rfl⟩
                    case round =>
                      obtain ⟨rfl, hwr⟩ := hrel
                      rw [hwr]
                      clear hwr
                      by_cases hn0 : 0 < nF
                      · have hn1 : (0 : Int) < (nF : Int) := by omega
                        go_wp2_with fail
                        rw [HRS.out]
                        exact bodyPost_ret (v := .agg #[.int .i64 6, .int .i64 0, .string ⟨#[]⟩, .slice none 0 0, .slice aF nF cF, .slice aL nL cL]) (by simp [results, Tryd.results24, go_sem, *]) rfl HD12.out.err
                      · have hn1 : ¬ (0 : Int) < (nF : Int) := by omega
                        go_wp2_with fail
                        rw [HRS.out]
                        exact bodyPost_ret (v := .agg #[.int .i64 6, .int .i64 0, .string ⟨#[]⟩, .slice none 0 0, .slice aF nF cF, .slice aL nL cL]) (by simp [results, Tryd.results24, go_sem, *]) rfl HD12.out.err
                  | true =>
                    have c2 : w11.cell? ⟨gr, 2, none⟩ = some (.int .i64 0) := HD11.out.rd.c2
                    by_cases h120 : 120 < i
                    · have HRS : Hid (RES = .err 15) := by show RES = _; rw [← HE3.out, if_neg (by rw [HU.out]; decide), if_pos h120]; rfl
                      have hsb : (120 : Int) < (s.size : Int) := by omega
                      have hsn : 120 < s.size := by omega
                      clear HE3
                      go_wp2_with fail
                      refine (bad_any w11 gr _ bc b k2 15 HD11.out.rd).mono ?_
                      rintro e w12 ⟨⟨v12, rfl⟩, hr12, hg12⟩
                      clear c2
                      have HD12 := Lib.hid (HD11.out.grown hg12 hr12 (Nat.le_refl _))
                      clear hr12 hg12
                      have c2 : w12.cell? ⟨gr, 2, none⟩ = some (.int .i64 15) := HD12.out.rd.c2
                      obtain ⟨b0, b1, b2, b3, b4, b5⟩ := HD12.out.box
                      replace b0 : w12.cell? ⟨w.heap.size + 1, 0, none⟩ = some (.int .i64 6) := b0
                      obtain ⟨d0, f0⟩ := HD12.out.fr.cells 0 _ rfl
                      obtain ⟨d1, f1⟩ := HD12.out.fr.cells 1 _ rfl
                      obtain ⟨d2, f2⟩ := HD12.out.fr.cells 2 _ rfl
                      obtain ⟨d3, f3⟩ := HD12.out.fr.cells 3 _ rfl
                      obtain ⟨d4, f4⟩ := HD12.out.fr.cells 4 _ rfl
                      obtain ⟨d5, f5⟩ := HD12.out.fr.cells 5 _ rfl
                      go_wp2_with fail
                      go_loopw [12] (fun i wr => i = .int .i64 0 ∧ wr = w12) (fun _ _ => 0)
                      case atStart => exact ⟨rfl, rfl⟩
                      case round =>
                        obtain ⟨rfl, hwr⟩ := hrel
                        rw [hwr]
                        clear hwr
                        by_cases hn0 : 0 < nF
                        · have hn1 : (0 : Int) < (nF : Int) := by omega
                          go_wp2_with fail
                          rw [HRS.out]
                          exact bodyPost_ret (v := .agg #[.int .i64 6, .int .i64 0, .string ⟨#[]⟩, .slice none 0 0, .slice aF nF cF, .slice aL nL cL]) (by simp [results, Tryd.results24, go_sem, *]) rfl HD12.out.err
                        · have hn1 : ¬ (0 : Int) < (nF : Int) := by omega
                          go_wp2_with fail
                          rw [HRS.out]
                          exact bodyPost_ret (v := .agg #[.int .i64 6, .int .i64 0, .string ⟨#[]⟩, .slice none 0 0, .slice aF nF cF, .slice aL nL cL]) (by simp [results, Tryd.results24, go_sem, *]) rfl HD12.out.err
                    · have HE4 : Hid ((if acc.any (fun p => decide (p.1 = s)) = true then .err 6 else ((Bson.valOf (Bson.doc d false none) (Bson.doc d true none)) cb (b.drop k2)).bind fun v r3 => Bson.loop (Bson.valOf (Bson.doc d false none) (Bson.doc d true none)) false g2 (acc ++ [(s, v)]) r3 : Res (List (ByteArray × Val))).bind FIN = RES) := by
                        show _ = RES
                        rw [← HE3.out, if_neg (show ¬ Bson.u8 s = false by rw [HU.out]; decide), if_neg h120]
                        simp only [res_ok_bindF, Bool.false_eq_true, false_and, if_false]
                      have hsb : ¬ (120 : Int) < (s.size : Int) := by omega
                      have hsn : ¬ 120 < s.size := by omega
                      clear HE3 HU
                      go_wp2_with fail
                      go_loopw [12] (fun i wr => ∃ (q e2 : Nat), i = .int .i64 q ∧ q ≤ nF ∧ Hid (RDLoop false w gr (some ⟨g, o, none⟩) bc b k2 e2 acc (.slice aF nF cF) (.slice aL nL cL) wr) ∧ Hid ((e2 = 0 ∧ ∀ j (hj : j < acc.length), j < q → acc[j].1 ≠ s) ∨ (e2 = 6 ∧ ∃ j, ∃ hj : j < acc.length, acc[j].1 = s))) (fun i _ => nF - (intOf i).toNat)
                      case atStart => exact ⟨0, 0, rfl, Nat.zero_le _, HD11, .inl ⟨rfl, fun _ _ h => absurd h (Nat.not_lt_zero _)⟩⟩
                      case round =>
                        obtain ⟨q, e2, rfl, hq, HD12, hcase⟩ := hrel
                        clear c2
                        generalize wr = w12 at *
                        rcases hcase.out with ⟨rfl, hno⟩ | ⟨rfl, hyes⟩
                        · have HNO := Lib.hid hno
                          clear hno hcase
                          have c2 : w12.cell? ⟨gr, 2, none⟩ = some (.int .i64 0) := HD12.out.rd.c2
                          obtain ⟨-, -, -, -, b4, -⟩ := HD12.out.box
                          by_cases hqn : q < nF
                          · have hqi : (q : Int) < (nF : Int) := by omega
                            have hqa : q < acc.length := by have h1 : nF = acc.length := HNF.out; omega
                            have HQA := Lib.hid hqa
                            have hnm := HD12.out.name.resolve_left (fun e => by rw [e] at hqa; simp at hqa)
                            obtain ⟨gf, of, rfl, hcells⟩ := hnm
                            have n0 := hcells q hqa
                            obtain ⟨nq, hnq⟩ : ∃ nq, nq = (acc[q]'HQA.out).1 := ⟨_, rfl⟩
                            rw [← hnq] at n0
                            have HNQ := Lib.hid hnq
                            clear hcells hnq hqa
                            by_cases e : nq = s
                            · have hc : (nq.toList == s.toList) = true := by rw [e]; simp
                              have HES := Lib.hid e
                              clear e
                              go_wp2_with fail
                              refine (bad_any w12 gr _ bc b k2 6 HD12.out.rd).mono ?_
                              rintro e w13 ⟨⟨v13, rfl⟩, hr13, hg13⟩
                              have HD13 := Lib.hid (HD12.out.grown hg13 hr13 (Nat.le_refl _))
                              clear hr13 hg13
                              go_wp2_with fail
                              go_roundw
                              case rel => exact ⟨q + 1, 6, by go_num, by omega, HD13, .inr ⟨rfl, q, HQA.out, by rw [← HNQ.out]; exact HES.out⟩⟩
                              case measure => simp [intOf]; omega
                            · have hc : (nq.toList == s.toList) = false := str_ne e
                              have HES : Hid (∀ j (hj : j < acc.length), j < q + 1 → acc[j].1 ≠ s) := fun j hj hjq => by
                                by_cases ej : j = q
                                · subst ej; rw [← HNQ.out]; exact e
                                · exact HNO.out j hj (by omega)
                              clear e
                              go_wp2_with fail
                              go_roundw
                              case rel => exact ⟨q + 1, 0, by go_num, by omega, HD12, .inl ⟨rfl, HES.out⟩⟩
                              case measure => simp [intOf]; omega
                          · have hqi : ¬ (q : Int) < (nF : Int) := by omega
                            have HE5 : Hid ((((Bson.valOf (Bson.doc d false none) (Bson.doc d true none)) cb (b.drop k2)).bind fun v r3 => Bson.loop (Bson.valOf (Bson.doc d false none) (Bson.doc d true none)) false g2 (acc ++ [(s, v)]) r3 : Res (List (ByteArray × Val))).bind FIN = RES) := by
                              show _ = RES
                              rw [← HE4.out, if_neg (by
                                intro ha
                                obtain ⟨p, hp, hps⟩ := List.any_eq_true.1 ha
                                obtain ⟨j, hj, rfl⟩ := List.getElem_of_mem hp
                                exact HNO.out j hj (by have h1 : nF = acc.length := HNF.out; omega) (of_decide_eq_true hps))]
                            clear HE4 HNO
                            have CV := Lib.hid (VAL.out cb w12 k2 HD12.out.rd)
                            have hk2b : k2 ≤ b.length := HD12.out.rd.le
                            cases hv : (Bson.valOf (Bson.doc d false none) (Bson.doc d true none)) cb (b.drop k2) with
                            | err n =>
                              have hn0 := Bson.told_valOf (Bson.told_doc d false none) (Bson.told_doc d true none) _ _ n hv
                              have hni : ((n : Int) != 0) = true := by rw [bne_iff_ne]; omega
                              have hnj : ¬ (n : Int) = 0 := by omega
                              have HRS : Hid (RES = .err n) := by
                                show RES = _
                                rw [← HE5.out, hv]; rfl
                              rw [hv] at CV
                              clear hv HE5
                              go_wp2_with fail
                              refine CV.out.mono ?_
                              rintro e w13 ⟨hg13, v, rfl, ⟨q1, q2, q3, a1, n1, m1, a2, n2, m2, a3, n3, m3, rfl⟩, k', hr13⟩
                              have HD13 := Lib.hid (HD12.out.moved hg13 hr13)
                              have HD14 : Hid (RDLoop false w gr _ bc b k' n acc (.slice aF nF cF) (.slice aL nL cL) (w13.alloc (.cells #[.int .i64 q1, .int .i64 q2, .string q3, .slice a1 n1 m1, .slice a2 n2 m2, .slice a3 n3 m3] 27))) := HD13.out.moved (grown_box _) (HD13.out.rd.keep ((Below.refl _ w13).alloc (Nat.le_refl _) _))
                              clear hg13 hr13 c2 b4
                              go_upto_region 37 with fail
                              generalize (w13.alloc (.cells #[.int .i64 q1, .int .i64 q2, .string q3, .slice a1 n1 m1, .slice a2 n2 m2, .slice a3 n3 m3] 27)) = w14 at *
                              have c2 := HD14.out.rd.c2
                              obtain ⟨b0, b1, b2, b3, b4, b5⟩ := HD14.out.box
                              replace b0 : w14.cell? ⟨w.heap.size + 1, 0, none⟩ = some (.int .i64 6) := b0
                              obtain ⟨d0, f0⟩ := HD14.out.fr.cells 0 _ rfl
                              obtain ⟨d1, f1⟩ := HD14.out.fr.cells 1 _ rfl
                              obtain ⟨d2, f2⟩ := HD14.out.fr.cells 2 _ rfl
                              obtain ⟨d3, f3⟩ := HD14.out.fr.cells 3 _ rfl
                              obtain ⟨d4, f4⟩ := HD14.out.fr.cells 4 _ rfl
                              obtain ⟨d5, f5⟩ := HD14.out.fr.cells 5 _ rfl
                              go_wp2_with fail
                              rw [HRS.out]
                              exact bodyPost_ret (v := .agg #[.int .i64 6, .int .i64 0, .string ⟨#[]⟩, .slice none 0 0, .slice aF nF cF, .slice aL nL cL]) (by simp [results, Tryd.results24, go_sem, *]) rfl HD14.out.err
                            | ok y r3 =>
                              have hless := Bson.less_valOf cb (b.drop k2) (Nat.le_refl _) y r3 hv
                              have HE6 : Hid ((Bson.loop (Bson.valOf (Bson.doc d false none) (Bson.doc d true none)) false g2 (acc ++ [(s, y)]) r3).bind FIN = RES) := by
                                show _ = RES
                                rw [← HE5.out, hv]; rfl
                              rw [hv] at CV
                              clear hv HE5
                              go_wp2_with fail
                              refine CV.out.mono ?_
                              rintro e w13 ⟨hg13, v, rfl, ⟨q1, q2, q3, a1, n1, m1, a2, n2, m2, a3, n3, m3, rfl⟩, k', rfl, hr13, hvy⟩
                              have hk'b : k' ≤ b.length := hr13.le
                              have hkk' : k2 ≤ k' := by rw [List.length_drop, List.length_drop] at hless; omega
                              have HD13 := Lib.hid (HD12.out.moved hg13 hr13)
                              have HD14 : Hid (RDLoop false w gr _ bc b k' 0 acc (.slice aF nF cF) (.slice aL nL cL) (w13.alloc (.cells #[.int .i64 q1, .int .i64 q2, .string q3, .slice a1 n1 m1, .slice a2 n2 m2, .slice a3 n3 m3] 27))) := HD13.out.moved (grown_box _) (HD13.out.rd.keep ((Below.refl _ w13).alloc (Nat.le_refl _) _))
                              have HBX : Hid ((w13.alloc (.cells #[.int .i64 q1, .int .i64 q2, .string q3, .slice a1 n1 m1, .slice a2 n2 m2, .slice a3 n3 m3] 27)).heap[w13.heap.size]? = some (.cells #[.int .i64 q1, .int .i64 q2, .string q3, .slice a1 n1 m1, .slice a2 n2 m2, .slice a3 n3 m3] 27 (0, 0))) := heap_alloc_new w13 _
                              have HV14 : Hid (ValV w12.heap.size (w13.alloc (.cells #[.int .i64 q1, .int .i64 q2, .string q3, .slice a1 n1 m1, .slice a2 n2 m2, .slice a3 n3 m3] 27)) y (.agg #[.int .i64 q1, .int .i64 q2, .string q3, .slice a1 n1 m1, .slice a2 n2 m2, .slice a3 n3 m3])) := hvy.alloc _
                              clear hg13 hr13 hvy hless CV c2 b4
                              go_upto_region 37 with fail
                              generalize (w13.alloc (.cells #[.int .i64 q1, .int .i64 q2, .string q3, .slice a1 n1 m1, .slice a2 n2 m2, .slice a3 n3 m3] 27)) = w14 at *
                              generalize w13.heap.size = T13 at *
                              have c2 : w14.cell? ⟨gr, 2, none⟩ = some (.int .i64 0) := HD14.out.rd.c2
                              obtain ⟨-, hh6, xs6, hf6⟩ := HD14.out.rf rfl
                              obtain ⟨-, hh12, xs12, hf12⟩ := HD12.out.rf rfl
                              have HLT12 : Hid (∀ g, (Value.slice aF nF cF).ownBlock = some g → g < w12.heap.size) := fun g e => (hf12.own.lt g e).2
                              have HGE : Hid (∀ g, (Value.slice aF nF cF).ownBlock = some g → w.heap.size + 2 ≤ g) := fun g e => (hf6.own.lt g e).1
                              have HB15 : Hid (Below w14.heap.size w14 (w14.alloc (.cells #[.string s, .int .i64 q1, .int .i64 q2, .string q3, .slice a1 n1 m1, .slice a2 n2 m2, .slice a3 n3 m3] 43))) := (Below.refl _ w14).alloc (Nat.le_refl _) _
                              have hown6 : (w14.alloc (.cells #[.string s, .int .i64 q1, .int .i64 q2, .string q3, .slice a1 n1 m1, .slice a2 n2 m2, .slice a3 n3 m3] 43)).ownsRow (w.heap.size + 2) 43 7 (Value.slice aF nF cF) acc.length xs6 := by
                                have h1 := owns_below hf6.own HB15.out
                                exact h1
                              have HOWN := Lib.hid hown6
                              have HNW := Lib.hid (sevenNew w14 (.string s) (.int .i64 q1) (.int .i64 q2) (.string q3) (.slice a1 n1 m1) (.slice a2 n2 m2) (.slice a3 n3 m3) 43)
                              have HF6 := Lib.hid hf6
                              have HSZ : Hid (w.heap.size + 2 ≤ (w14.alloc (.cells #[.string s, .int .i64 q1, .int .i64 q2, .string q3, .slice a1 n1 m1, .slice a2 n2 m2, .slice a3 n3 m3] 43)).heap.size) := Nat.le_trans HD14.out.sz HB15.out.size
                              have hln14 : acc.length ≤ 65536 := HD14.out.ln
                              have hacck : acc.length + 1 ≤ b.length := by omega
                              have hb65 : b.length ≤ 65536 := HD14.out.rd.len
                              have e0 := cell_of_row w14 T13 0 _ _ _ HBX.out
                              have e1 := cell_of_row w14 T13 1 _ _ _ HBX.out
                              have e2 := cell_of_row w14 T13 2 _ _ _ HBX.out
                              have e3 := cell_of_row w14 T13 3 _ _ _ HBX.out
                              have e4 := cell_of_row w14 T13 4 _ _ _ HBX.out
                              have e5 := cell_of_row w14 T13 5 _ _ _ HBX.out
                              obtain ⟨-, -, -, -, b4, b5⟩ := HD14.out.box
                              clear hf6 hf12 hown6
                              go_upto_region 41 with fail
                              refine wp_region_lit ?_
                              go_wp2_with (at_builtin; refine wpList_append_sz _ rfl (.tmp 188) (.tmp 192) 24 rfl (w.heap.size + 2) 43 i0 (.agg #[.string ⟨#[]⟩, .int .i64 0, .int .i64 0, .string ⟨#[]⟩, .slice none 0 0, .slice none 0 0, .slice none 0 0]) 7 120 Tryd.underlying24 hi hz0 hz1 hz2 rfl (Value.slice aF nF cF) acc.length xs6 rfl HOWN.out ⟨w14.heap.size, 0, none⟩ 1 1 [.string s, .int .i64 q1, .int .i64 q2, .string q3, .slice a1 n1 m1, .slice a2 n2 m2, .slice a3 n3 m3] rfl rfl (by decide) (by decide) HNW.out (sevenOne _ _ _ _ _ _ _ _ _ _ _ _ _) (by unfold maxLen; omega) (by omega) HSZ.out ?_)
                              intro v9 w9 hown9 hlies9
                              obtain ⟨-, -, -, hbx9, -⟩ := HD14.out.behind (j := 4) (v' := v9) HB15.out (Wrote.of_lies hlies9) HGE.out rfl
                              obtain ⟨hy, hvy⟩ := HV14.out
                              have HD15 : Hid (RDLoop false w gr _ bc b k' 0 (acc ++ [(s, y)]) v9 _ (w9.setCell ⟨w.heap.size + 1, 4, none⟩ v9)) := HD14.out.pushF HF6.out HB15.out (Wrote.of_lies hlies9) hown9 hs47 (by omega) (hvy.kept (Kept.of_below HB15.out) (fun g hg => ⟨by have h1 : w12.heap.size ≤ g := hg; have := HD12.out.sz; omega, fun e => by have h1 : w12.heap.size ≤ g := hg; have := HLT12.out g e; omega⟩))
                              have f9 := frozen_of_row w9 (w.heap.size + 1) 4 _ _ hbx9
                              have d9 : w9.cell? ⟨w.heap.size + 1, 4, none⟩ = some (Value.slice aF nF cF) := cell_of_row w9 (w.heap.size + 1) 4 _ _ _ hbx9
                              obtain ⟨a9, n9, c9, rfl⟩ : ∃ a n c, v9 = .slice a n c := by
                                rcases hown9.2 with ⟨rfl, _⟩ | ⟨gq, cap, cur, rfl, _⟩
                                · exact ⟨_, _, _, rfl⟩
                                · exact ⟨_, _, _, rfl⟩
                              clear hown9 hlies9 hbx9 hvy b4 b5
                              go_wp2_with fail
                              go_roundw
                              case rel => exact ⟨k', g2, _, _, _, HD15, HE6, by omega, by omega, by rw [List.length_append]; simp; omega⟩
                              case measure =>
                                rw [HD15.out.rd.pos, hpos]
                                omega
                        · have HRS : Hid (RES = .err 6) := by
                            show RES = _
                            obtain ⟨j, hj, e⟩ := hyes
                            rw [← HE4.out, if_pos (List.any_eq_true.2 ⟨acc[j], List.getElem_mem hj, decide_eq_true e⟩)]; rfl
                          have c2 : w12.cell? ⟨gr, 2, none⟩ = some (.int .i64 6) := HD12.out.rd.c2
                          clear hyes hcase HE4
                          obtain ⟨b0, b1, b2, b3, b4, b5⟩ := HD12.out.box
                          replace b0 : w12.cell? ⟨w.heap.size + 1, 0, none⟩ = some (.int .i64 6) := b0
                          obtain ⟨d0, f0⟩ := HD12.out.fr.cells 0 _ rfl
                          obtain ⟨d1, f1⟩ := HD12.out.fr.cells 1 _ rfl
                          obtain ⟨d2, f2⟩ := HD12.out.fr.cells 2 _ rfl
                          obtain ⟨d3, f3⟩ := HD12.out.fr.cells 3 _ rfl
                          obtain ⟨d4, f4⟩ := HD12.out.fr.cells 4 _ rfl
                          obtain ⟨d5, f5⟩ := HD12.out.fr.cells 5 _ rfl
                          by_cases hqn : q < nF
                          · have hqi : (q : Int) < (nF : Int) := by omega
                            go_wp2_with fail
                            rw [HRS.out]
                            exact bodyPost_ret (v := .agg #[.int .i64 6, .int .i64 0, .string ⟨#[]⟩, .slice none 0 0, .slice aF nF cF, .slice aL nL cL]) (by simp [results, Tryd.results24, go_sem, *]) rfl HD12.out.err
                          · have hqi : ¬ (q : Int) < (nF : Int) := by omega
                            go_wp2_with fail
                            rw [HRS.out]
                            exact bodyPost_ret (v := .agg #[.int .i64 6, .int .i64 0, .string ⟨#[]⟩, .slice none 0 0, .slice aF nF cF, .slice aL nL cL]) (by simp [results, Tryd.results24, go_sem, *]) rfl HD12.out.err
end Go.Proofs.YtpiookgkkaafeaaDoor
end
section
namespace Go.Proofs.YtpiookgkkaafeaaDoor
open Go.RowKit
open Seal
open Bson (Val Res)
theorem RDLoop.newT {w : World} {gr bc k : Nat} {ba : Option Addr} {b : List Nat} (hR : RdE w gr ba bc b k 0) : RDLoop true w gr ba bc b k 0 [] (.slice none 0 0) (.slice none 0 0) ((w.alloc (.cells zeroCs 27)).alloc (.cells #[.int .i64 7, .int .i64 0, .string ⟨#[]⟩, .slice none 0 0, .slice none 0 0, .slice none 0 0] 27)) := by
  have hb1 : Below w.heap.size w (w.alloc (.cells zeroCs 27)) := (Below.refl _ w).alloc (Nat.le_refl _) _
  have hb2 : Below w.heap.size w ((w.alloc (.cells zeroCs 27)).alloc (.cells #[.int .i64 7, .int .i64 0, .string ⟨#[]⟩, .slice none 0 0, .slice none 0 0, .slice none 0 0] 27)) := hb1.alloc (by simp) _
  have hs : (w.alloc (.cells zeroCs 27)).heap.size = w.heap.size + 1 := by simp
  have hn := heap_alloc_new (w.alloc (.cells zeroCs 27)) (.cells #[.int .i64 7, .int .i64 0, .string ⟨#[]⟩, .slice none 0 0, .slice none 0 0, .slice none 0 0] 27)
  rw [hs] at hn
  refine ⟨hR.lt, hR.keep hb2, ?_, hn, fun h => ⟨rfl, 0, [], FAcc.nil _ _ _ _⟩, fun h => ⟨rfl, 0, [], Acc.nil _ _ _ _⟩, fun _ i hi => absurd hi (by simp), grown_below hb2 gr, by simp, by simp, k, hR⟩
  have hf : Fresh w (w.alloc (.cells zeroCs 27)) := Fresh.new w
  show ((w.alloc (.cells zeroCs 27)).alloc (.cells #[.int .i64 7, .int .i64 0, .string ⟨#[]⟩, .slice none 0 0, .slice none 0 0, .slice none 0 0] 27)).heap[w.heap.size]? = _
  rw [Below.heap_alloc _ _ _ (by simp)]
  exact hf
theorem res_ok_bindT {α β : Type} (x : α) (r : List Nat) (f : α → List Nat → Res β) : (Res.ok x r).bind f = f x r := rfl
theorem infoVal2 : (Tryd.prog.info? 27).map (fun i => (i.zero, i.size, i.bytes)) = some (some (.agg #[.int .i64 0, .int .i64 0, .string ⟨#[]⟩, .slice none 0 0, .slice none 0 0, .slice none 0 0]), 6, 104) := by kernel_rfl
set_option maxRecDepth 100000 in
set_option maxHeartbeats 4000000 in
theorem rdocT (d : Nat) (w : World) (gr : Nat) (ba : Option Addr) (bc : Nat) (b : List Nat) (k : Nat) (dp : Int) (hd0 : 1 ≤ dp) (hd1 : dp ≤ 32) (hR : RdE w gr ba bc b k 0)
    (VAL : ∀ (c : Nat) (W : World) (k2 : Nat), RdE W gr ba bc b k2 0 → Calls Tryd.prog 48 #[.pointer (some ⟨gr, 0, none⟩), .int .u8 (c : Int), .int .i64 dp] W (RPostE W.heap.size W gr ba bc b ((Bson.valOf (Bson.doc d false none) (Bson.doc d true none)) c (b.drop k2)))) :
    Calls Tryd.prog 24 #[.pointer (some ⟨gr, 0, none⟩), .bool true, .int .i64 dp] w (RPostE w.heap.size w gr ba bc b (Bson.doc (d + 1) true (if dp = 1 then some b.length else none) (b.drop k))) := by
  obtain ⟨i0, hi, hz0, hz1, hz2⟩ := info_parts infoVal2
  have hlt := hR.lt
  have hd3 : ¬ (32 : Int) < dp := by omega
  have hlen := hR.len
  have hcap := hR.cap
  have hmax := hR.max
  have hle := hR.le
  have HD1 : Hid _ := Lib.hid (RDLoop.newT hR)
  have VAL := Lib.hid VAL
  obtain ⟨RES, hRES⟩ : ∃ r, r = Bson.doc (d + 1) true (if dp = 1 then some b.length else none) (b.drop k) := ⟨_, rfl⟩
  rw [← hRES]
  have HRES := Lib.hid hRES
  clear hR hRES
  go_enter Tryd.func24, Tryd.ntmps24
  go_upto_region 4 with fail
  generalize ((w.alloc (.cells zeroCs 27)).alloc (.cells #[.int .i64 7, .int .i64 0, .string ⟨#[]⟩, .slice none 0 0, .slice none 0 0, .slice none 0 0] 27)) = w1 at *
  have c1 := HD1.out.rd.c1
  by_cases h4 : b.length < k + 4
  · have HRS : Hid (RES = .err 2) := by
      show _ = _
      rw [HRES.out]; unfold Bson.doc Bson.take; rw [if_pos (by simp; omega)]; rfl
    have CN := Lib.hid (need_no _ gr ba bc b k 4 HD1.out.rd (by decide) h4)
    clear h4
    go_wp2_with fail
    refine CN.out.mono ?_
    rintro e w2 ⟨rfl, hr2, hg2⟩
    have HD2 := Lib.hid (HD1.out.grown hg2 hr2 (Nat.le_refl _))
    clear hr2 hg2
    obtain ⟨b0, b1, b2, b3, b4, b5⟩ := HD2.out.box
    replace b0 : w2.cell? ⟨w.heap.size + 1, 0, none⟩ = some (.int .i64 7) := b0
    obtain ⟨d0, f0⟩ := HD2.out.fr.cells 0 _ rfl
    obtain ⟨d1, f1⟩ := HD2.out.fr.cells 1 _ rfl
    obtain ⟨d2, f2⟩ := HD2.out.fr.cells 2 _ rfl
    obtain ⟨d3, f3⟩ := HD2.out.fr.cells 3 _ rfl
    obtain ⟨d4, f4⟩ := HD2.out.fr.cells 4 _ rfl
    obtain ⟨d5, f5⟩ := HD2.out.fr.cells 5 _ rfl
    go_wp2_with fail
    rw [HRS.out]
    exact bodyPost_ret (v := .agg #[.int .i64 7, .int .i64 0, .string ⟨#[]⟩, .slice none 0 0, .slice none 0 0, .slice none 0 0]) (by simp [results, Tryd.results24, go_sem, *]) rfl HD2.out.err
  · have CY := Lib.hid (need_ok _ gr ba bc b k 4 HD1.out.rd (by omega))
    have hx4 : ((b.drop k).take 4).length = 4 := by simp; omega
    have ho4 : Oct ((b.drop k).take 4) := fun c hc => HD1.out.rd.oct c (List.mem_of_mem_drop (List.mem_of_mem_take hc))
    obtain ⟨hu32, hi32, hi64, hs0, hs1⟩ := conv_i32 _ hx4 ho4
    have HE0 : Hid ((if Bson.signed ((b.drop k).take 4) < 5 ∨ (∃ n : Nat, (if dp = 1 then some b.length else none) = some n ∧ Bson.signed ((b.drop k).take 4) ≠ (n : Int)) then .err 4 else (Bson.loop (Bson.valOf (Bson.doc d false none) (Bson.doc d true none)) true ((b.drop (k + 4)).length + 1) [] (b.drop (k + 4))).bind fun fs r' => if ((b.drop k).length : Int) - r'.length ≠ Bson.signed ((b.drop k).take 4) then .err 4 else .ok (Bson.shut true fs) r') = RES) := by
      show _ = _
      rw [HRES.out]
      rw [Bson.doc, show Bson.take 4 (b.drop k) = .ok ((b.drop k).take 4) (b.drop (k + 4)) by unfold Bson.take; rw [if_neg (by simp; omega), List.drop_drop]]
      rfl
    have CG0 := Lib.hid (fun (W : World) (hs : SliceIs W ba b) => get_any W ba b.length bc k 4 b rfl (by decide) (by decide) (by omega) HD1.out.rd.len HD1.out.rd.oct hs)
    generalize Bson.signed ((b.drop k).take 4) = sg at *
    generalize Bson.leN ((b.drop k).take 4) = x4 at *
    have hk4 : k + 4 ≤ b.length := by omega
    have HK4 := Lib.hid hk4
    clear h4 hx4 ho4 HRES
    go_wp2_with fail
    refine CY.out.mono ?_
    rintro e w2 ⟨rfl, hr2, hg2⟩
    have HD2 := Lib.hid (HD1.out.grown hg2 hr2 (Nat.le_refl _))
    clear hr2 hg2 CY c1
    obtain ⟨L, hL⟩ : ∃ L, L = b.length := ⟨_, rfl⟩
    have HL := Lib.hid hL
    have c0 := HD2.out.rd.c0
    have c1 := HD2.out.rd.c1
    have CG : Hid (∀ q, Calls Tryd.prog 43 #[.slice ba L bc, .int .i64 (k : Int), .int .i64 4] (w2.drewN q) fun e w' => e = .returned (.int .u64 (x4 : Int)) ∧ w2.drewN q = w') := fun q => by rw [hL]; exact CG0.out _ (HD2.out.rd.dr q).rd
    rw [← hL] at c0 hk4 hcap hlen hle
    clear hL CG0
    go_wp2_with fail
    go_quiet ((go_at_call 43; exact Calls.quiet_of_same ((CG.out _).mono fun _ _ h => ⟨h.1, h.2.symm⟩)))
    have HD3 := Lib.hid (HD2.out.dr nq)
    clear c0 c1 CG
    generalize w2.drewN nq = w3 at *
    have c1 := HD3.out.rd.c1
    have f1 := HD3.out.rd.frz 1
    have hkw : IntKind.i64.wrap ((k : Int) + 4) = (k : Int) + 4 := IntWalk.i64_in _ (by omega)
    go_upto_region 11 with fail
    have hs4 := HD3.out.setAt (k + 4) HK4.out (by omega)
    have e4 : ((k + 4 : Nat) : Int) = (k : Int) + 4 := by omega
    rw [e4] at hs4
    have HD4 := Lib.hid hs4
    clear hs4 e4 c1 f1 hkw
    generalize w3.setCell ⟨gr, 1, none⟩ (.int .i64 ((k : Int) + 4)) = w4 at *
    have c0 := HD4.out.rd.c0
    rw [← HL.out] at c0
    obtain ⟨bb, hbb⟩ : ∃ bb : Bool, (bb = true ↔ (sg < 5 ∨ (∃ n : Nat, (if dp = 1 then some b.length else none) = some n ∧ sg ≠ (n : Int)))) := by
      by_cases hc : (sg < 5 ∨ (∃ n : Nat, (if dp = 1 then some b.length else none) = some n ∧ sg ≠ (n : Int)))
      · exact ⟨true, by simp only [true_iff]; exact hc⟩
      · exact ⟨false, by simp only [Bool.false_eq_true, false_iff]; exact hc⟩
    have HBB := Lib.hid hbb
    clear hbb hu32 hi32 hi64
    go_cut [63] from 49 to 62 (fun u W => u = .bool bb ∧ W = w4)
    case first =>
      by_cases hn5 : sg < 5
      · obtain rfl : bb = true := HBB.out.2 (.inl hn5)
        go_wp2_with fail
        go_meet
        exact ⟨rfl, rfl⟩
      · have hn5d : decide (sg < 5) = false := decide_eq_false hn5
        by_cases h1 : dp = 1
        · subst h1
          by_cases hnb : sg = (L : Int)
          · obtain rfl : bb = false := by
              cases bb with
              | false => rfl
              | true =>
                rcases HBB.out.1 rfl with h | ⟨m, hm, hm2⟩
                · exact absurd h hn5
                · rw [if_pos rfl] at hm; injection hm with hm; exact absurd (by rw [← hm, ← HL.out]; exact hnb) hm2
            subst hnb
            go_wp2_with fail
            go_meet
            exact ⟨rfl, rfl⟩
          · obtain rfl : bb = true := HBB.out.2 (.inr ⟨b.length, if_pos rfl, by rw [← HL.out]; exact hnb⟩)
            have hnx : (sg != (L : Int)) = true := by rw [bne_iff_ne]; exact hnb
            go_wp2_with fail
            go_meet
            exact ⟨rfl, rfl⟩
        · have h1b : (dp == 1) = false := by rw [beq_eq_false_iff_ne]; exact h1
          obtain rfl : bb = false := by
            cases bb with
            | false => rfl
            | true =>
              rcases HBB.out.1 rfl with h | ⟨m, hm, hm2⟩
              · exact absurd h hn5
              · rw [if_neg h1] at hm; cases hm
          go_wp2_with fail
          go_meet
          exact ⟨rfl, rfl⟩
    case rest =>
      obtain ⟨rfl, rfl⟩ := hcut
      clear c0
      cases bb with
      | true =>
        have HRS : Hid (RES = .err 4) := by
          show RES = _
          rw [← HE0.out, if_pos (HBB.out.1 rfl)]
        go_wp2_with fail
        refine (bad_any _ gr _ bc b (k + 4) 4 HD4.out.rd).mono ?_
        rintro e w5 ⟨⟨v5, rfl⟩, hr5, hg5⟩
        have HD5 := Lib.hid (HD4.out.grown hg5 hr5 (Nat.le_refl _))
        clear hr5 hg5
        obtain ⟨b0, b1, b2, b3, b4, b5⟩ := HD5.out.box
        replace b0 : w5.cell? ⟨w.heap.size + 1, 0, none⟩ = some (.int .i64 7) := b0
        obtain ⟨d0, f0⟩ := HD5.out.fr.cells 0 _ rfl
        obtain ⟨d1, f1⟩ := HD5.out.fr.cells 1 _ rfl
        obtain ⟨d2, f2⟩ := HD5.out.fr.cells 2 _ rfl
        obtain ⟨d3, f3⟩ := HD5.out.fr.cells 3 _ rfl
        obtain ⟨d4, f4⟩ := HD5.out.fr.cells 4 _ rfl
        obtain ⟨d5, f5⟩ := HD5.out.fr.cells 5 _ rfl
        go_wp2_with fail
        rw [HRS.out]
        exact bodyPost_ret (v := .agg #[.int .i64 7, .int .i64 0, .string ⟨#[]⟩, .slice none 0 0, .slice none 0 0, .slice none 0 0]) (by simp [results, Tryd.results24, go_sem, *]) rfl HD5.out.err
      | false =>
        have HE1 : Hid ((Bson.loop (Bson.valOf (Bson.doc d false none) (Bson.doc d true none)) true ((b.drop (k + 4)).length + 1) [] (b.drop (k + 4))).bind (fun fs r' => if ((b.drop k).length : Int) - r'.length ≠ sg then .err 4 else .ok (Bson.shut true fs) r') = RES) := by
          show _ = RES
          rw [← HE0.out, if_neg (fun hh => absurd (HBB.out.2 hh) (by decide))]
        clear HE0 HBB
        go_wp2_with fail
        clear hd3
        obtain ⟨FIN, hFIN⟩ : ∃ f : List (ByteArray × Val) → List Nat → Res Val, f = fun fs r' => if ((b.drop k).length : Int) - r'.length ≠ sg then .err 4 else .ok (Bson.shut true fs) r' := ⟨_, rfl⟩
        rw [← hFIN] at HE1
        have HFIN := Lib.hid hFIN
        clear hFIN
        go_loopw [] (fun wr => ∃ (kk gas : Nat) (acc : List (ByteArray × Val)) (vF vL : Value), Hid (RDLoop true w gr ba bc b kk 0 acc vF vL wr) ∧ Hid ((Bson.loop (Bson.valOf (Bson.doc d false none) (Bson.doc d true none)) true gas acc (b.drop kk)).bind FIN = RES) ∧ b.length - kk < gas ∧ k + 4 ≤ kk ∧ acc.length ≤ kk) (fun W => b.length - posE W gr)
        case atStart => exact ⟨k + 4, _, [], _, _, HD4, HE1, by rw [List.length_drop]; omega, Nat.le_refl _, Nat.zero_le _⟩
        case round =>
          obtain ⟨kk, gas2, acc, vF, vL, HD6, HE, hgas2, hk4k, hacc⟩ := hrel
          clear HE1 HD4
          have hle6 := HD6.out.rd.le
          have hpos := HD6.out.rd.pos
          obtain ⟨g2, rfl⟩ : ∃ g2, gas2 = g2 + 1 := ⟨gas2 - 1, by omega⟩
          obtain ⟨aF, nF, cF, aL, nL, cL, rfl, rfl, hnF, hnL, hcF, hcL, hmF, hmL2, -⟩ := HD6.out.value
          have HNF := Lib.hid hnF
          have HNL := Lib.hid hnL
          clear hnF hnL
          generalize wr = w6 at *
          by_cases hk : b.length < kk + 1
          · have HRS : Hid (RES = .err 2) := by
              show RES = _
              rw [← HE.out, List.drop_of_length_le (by omega)]; rfl
            have CN := Lib.hid (need_no w6 gr ba bc b kk 1 HD6.out.rd (by decide) hk)
            clear hk HE
            go_wp2_with fail
            refine CN.out.mono ?_
            rintro e w7 ⟨rfl, hr7, hg7⟩
            have HD7 := Lib.hid (HD6.out.grown hg7 hr7 (Nat.le_refl _))
            clear hr7 hg7
            obtain ⟨b0, b1, b2, b3, b4, b5⟩ := HD7.out.box
            replace b0 : w7.cell? ⟨w.heap.size + 1, 0, none⟩ = some (.int .i64 7) := b0
            obtain ⟨d0, f0⟩ := HD7.out.fr.cells 0 _ rfl
            obtain ⟨d1, f1⟩ := HD7.out.fr.cells 1 _ rfl
            obtain ⟨d2, f2⟩ := HD7.out.fr.cells 2 _ rfl
            obtain ⟨d3, f3⟩ := HD7.out.fr.cells 3 _ rfl
            obtain ⟨d4, f4⟩ := HD7.out.fr.cells 4 _ rfl
            obtain ⟨d5, f5⟩ := HD7.out.fr.cells 5 _ rfl
            go_wp2_with fail
            rw [HRS.out]
            exact bodyPost_ret (v := .agg #[.int .i64 7, .int .i64 0, .string ⟨#[]⟩, .slice none 0 0, .slice aF nF cF, .slice aL nL cL]) (by simp [results, Tryd.results24, go_sem, *]) rfl HD7.out.err
          · have HLT : Hid (kk < b.length) := by show _ < _; omega
            have CY := Lib.hid (need_ok w6 gr ba bc b kk 1 HD6.out.rd (by omega))
            obtain ⟨g, o, rfl, -, hz256⟩ := HD6.out.rd.byteAt HLT.out
            obtain ⟨cb, hcb⟩ : ∃ c, c = b[kk]'HLT.out := ⟨_, rfl⟩
            have HCB := Lib.hid hcb
            rw [← hcb] at hz256
            have HE1 : Hid ((if cb = 0 then .ok acc (b.drop (kk + 1)) else if Bson.known cb = false then .err 9 else (Bson.name (b.drop (kk + 1))).bind fun s r2 => if true = true ∧ s ≠ Bson.digits acc.length then .err 4 else if acc.any (fun p => decide (p.1 = s)) = true then .err 6 else ((Bson.valOf (Bson.doc d false none) (Bson.doc d true none)) cb r2).bind fun v r3 => Bson.loop (Bson.valOf (Bson.doc d false none) (Bson.doc d true none)) true g2 (acc ++ [(s, v)]) r3 : Res (List (ByteArray × Val))).bind FIN = RES) := by
              show _ = RES
              rw [← HE.out, List.drop_eq_getElem_cons HLT.out, ← hcb]; rfl
            clear hcb HE hk
            go_wp2_with fail
            refine CY.out.mono ?_
            rintro e w7 ⟨rfl, hr7, hg7⟩
            have HD7 := Lib.hid (HD6.out.grown hg7 hr7 (Nat.le_refl _))
            clear hr7 hg7
            clear CY
            have hkL : kk + 1 ≤ L := by have := HLT.out; have := HL.out; omega
            have c0 := HD7.out.rd.c0
            have c1 := HD7.out.rd.c1
            rw [← HL.out] at c0
            have q0 := HD7.out.rd.byteHere HLT.out
            rw [← HCB.out] at q0
            have hk0 : (0 : Int) ≤ (kk : Int) := by omega
            have hk1 : (kk : Int) < (L : Int) := by omega
            have hkt : ((kk : Int)).toNat = kk := by omega
            have hkN : kk < L := by omega
            go_wp2_with fail
            go_quiet (fail)
            have HD8 := Lib.hid (HD7.out.dr nq)
            clear c0 c1 q0 hk0 hk1 hkt hkN
            generalize w7.drewN nq = w8 at *
            have c1 := HD8.out.rd.c1
            have f1 := HD8.out.rd.frz 1
            have hkw : IntKind.i64.wrap ((kk : Int) + 1) = (kk : Int) + 1 := IntWalk.i64_in _ (by omega)
            go_upto_region 18 with fail
            have hs4 := HD8.out.setAt (kk + 1) HLT.out (by omega)
            have e4 : ((kk + 1 : Nat) : Int) = (kk : Int) + 1 := by omega
            rw [e4] at hs4
            have HD9 := Lib.hid hs4
            clear hs4 e4 c1 f1 hkw
            generalize w8.setCell ⟨gr, 1, none⟩ (.int .i64 ((kk : Int) + 1)) = w9 at *
            by_cases h0 : cb = 0
            · subst h0
              have c1 : w9.cell? ⟨gr, 1, none⟩ = some (.int .i64 ((kk : Int) + 1)) := by have := HD9.out.rd.c1; rwa [show ((kk + 1 : Nat) : Int) = (kk : Int) + 1 by omega] at this
              have hsub : IntKind.i64.wrap ((kk : Int) + 1 - (k : Int)) = (kk : Int) + 1 - (k : Int) := IntWalk.i64_in _ (by omega)
              have HE2 : Hid ((if (kk : Int) + 1 - (k : Int) ≠ sg then .err 4 else .ok (Bson.shut true acc) (b.drop (kk + 1))) = RES) := by
                show _ = RES
                rw [← HE1.out, if_pos rfl]
                show _ = FIN acc (b.drop (kk + 1))
                rw [HFIN.out]
                have hln : ((b.drop k).length : Int) - (b.drop (kk + 1)).length = (kk : Int) + 1 - k := by have := HL.out; rw [List.length_drop, List.length_drop]; omega
                show _ = (if ((b.drop k).length : Int) - (b.drop (kk + 1)).length ≠ sg then _ else _ : Res Val)
                rw [hln]
              by_cases hx : (kk : Int) + 1 - (k : Int) = sg
              · subst hx
                have HRS : Hid (RES = .ok (Bson.shut true acc) (b.drop (kk + 1))) := by
                  show RES = _
                  rw [← HE2.out, if_neg (by simp)]
                obtain ⟨b0, b1, b2, b3, b4, b5⟩ := HD9.out.box
                replace b0 : w9.cell? ⟨w.heap.size + 1, 0, none⟩ = some (.int .i64 7) := b0
                obtain ⟨d0, f0⟩ := HD9.out.fr.cells 0 _ rfl
                obtain ⟨d1, f1⟩ := HD9.out.fr.cells 1 _ rfl
                obtain ⟨d2, f2⟩ := HD9.out.fr.cells 2 _ rfl
                obtain ⟨d3, f3⟩ := HD9.out.fr.cells 3 _ rfl
                obtain ⟨d4, f4⟩ := HD9.out.fr.cells 4 _ rfl
                obtain ⟨d5, f5⟩ := HD9.out.fr.cells 5 _ rfl
                go_wp2_with fail
                rw [HRS.out]
                exact bodyPost_ret (v := .agg #[.int .i64 7, .int .i64 0, .string ⟨#[]⟩, .slice none 0 0, .slice aF nF cF, .slice aL nL cL]) (by simp [results, Tryd.results24, go_sem, *]) rfl HD9.out.ok
              · have hxb : ((kk : Int) + 1 - (k : Int) != sg) = true := by rw [bne_iff_ne]; exact hx
                have HRS : Hid (RES = .err 4) := by
                  show RES = _
                  rw [← HE2.out, if_pos hx]
                go_wp2_with fail
                refine (bad_any w9 gr _ bc b (kk + 1) 4 HD9.out.rd).mono ?_
                rintro e w10 ⟨⟨v10, rfl⟩, hr10, hg10⟩
                clear c1
                have HD10 := Lib.hid (HD9.out.grown hg10 hr10 (Nat.le_refl _))
                clear hr10 hg10
                obtain ⟨b0, b1, b2, b3, b4, b5⟩ := HD10.out.box
                replace b0 : w10.cell? ⟨w.heap.size + 1, 0, none⟩ = some (.int .i64 7) := b0
                obtain ⟨d0, f0⟩ := HD10.out.fr.cells 0 _ rfl
                obtain ⟨d1, f1⟩ := HD10.out.fr.cells 1 _ rfl
                obtain ⟨d2, f2⟩ := HD10.out.fr.cells 2 _ rfl
                obtain ⟨d3, f3⟩ := HD10.out.fr.cells 3 _ rfl
                obtain ⟨d4, f4⟩ := HD10.out.fr.cells 4 _ rfl
                obtain ⟨d5, f5⟩ := HD10.out.fr.cells 5 _ rfl
                go_wp2_with fail
                rw [HRS.out]
                exact bodyPost_ret (v := .agg #[.int .i64 7, .int .i64 0, .string ⟨#[]⟩, .slice none 0 0, .slice aF nF cF, .slice aL nL cL]) (by simp [results, Tryd.results24, go_sem, *]) rfl HD10.out.err
            · have h0i : ((cb : Int) == 0) = false := by rw [beq_eq_false_iff_ne]; omega
              have h0j : ¬ (cb : Int) = 0 := by omega
              have h0k : (cb == 0) = false := by rw [beq_eq_false_iff_ne]; exact h0
              have CK := Lib.hid (known_any cb w9 h0)
              cases hkn : Bson.known cb with
              | false =>
                have HRS : Hid (RES = .err 9) := by
                  show RES = _
                  rw [← HE1.out, if_neg h0, if_pos hkn]; rfl
                rw [hkn] at CK
                clear hkn
                go_wp2_with fail
                refine CK.out.mono ?_
                rintro e w10 ⟨rfl, hw⟩
                rw [hw]
                clear hw w10
                go_wp2_with fail
                refine (bad_any w9 gr _ bc b (kk + 1) 9 HD9.out.rd).mono ?_
                rintro e w10 ⟨⟨v10, rfl⟩, hr10, hg10⟩
                have HD10 := Lib.hid (HD9.out.grown hg10 hr10 (Nat.le_refl _))
                clear hr10 hg10
                obtain ⟨b0, b1, b2, b3, b4, b5⟩ := HD10.out.box
                replace b0 : w10.cell? ⟨w.heap.size + 1, 0, none⟩ = some (.int .i64 7) := b0
                obtain ⟨d0, f0⟩ := HD10.out.fr.cells 0 _ rfl
                obtain ⟨d1, f1⟩ := HD10.out.fr.cells 1 _ rfl
                obtain ⟨d2, f2⟩ := HD10.out.fr.cells 2 _ rfl
                obtain ⟨d3, f3⟩ := HD10.out.fr.cells 3 _ rfl
                obtain ⟨d4, f4⟩ := HD10.out.fr.cells 4 _ rfl
                obtain ⟨d5, f5⟩ := HD10.out.fr.cells 5 _ rfl
                go_wp2_with fail
                rw [HRS.out]
                exact bodyPost_ret (v := .agg #[.int .i64 7, .int .i64 0, .string ⟨#[]⟩, .slice none 0 0, .slice aF nF cF, .slice aL nL cL]) (by simp [results, Tryd.results24, go_sem, *]) rfl HD10.out.err
              | true =>
                have HE2 : Hid (((Bson.name (b.drop (kk + 1))).bind fun s r2 => if true = true ∧ s ≠ Bson.digits acc.length then .err 4 else if acc.any (fun p => decide (p.1 = s)) = true then .err 6 else ((Bson.valOf (Bson.doc d false none) (Bson.doc d true none)) cb r2).bind fun v r3 => Bson.loop (Bson.valOf (Bson.doc d false none) (Bson.doc d true none)) true g2 (acc ++ [(s, v)]) r3 : Res (List (ByteArray × Val))).bind FIN = RES) := by
                  show _ = RES
                  rw [← HE1.out, if_neg h0, if_neg (by rw [hkn]; decide)] <;> simp
                rw [hkn] at CK
                obtain ⟨i, hi⟩ : ∃ i, i = (b.drop (kk + 1)).findIdx (· == 0) := ⟨_, rfl⟩
                have CNM := Lib.hid (rname_any w9 gr _ bc b (kk + 1) i HD9.out.rd hi)
                have HI := Lib.hid hi
                clear hkn HE1 hi
                go_wp2_with fail
                refine CK.out.mono ?_
                rintro e w10 ⟨rfl, hw⟩
                rw [hw]
                clear hw w10 CK
                go_wp2_with fail
                refine CNM.out.mono ?_
                rintro e w10 ⟨hg10, hcase⟩
                rcases hcase with ⟨hi2, rfl, hr10⟩ | ⟨hi2, rfl, hr10⟩
                · have HRS : Hid (RES = .err 2) := by
                    show RES = _
                    rw [← HE2.out]
                    unfold Bson.name
                    rw [if_pos (by rw [← HI.out, List.length_drop]; omega)]; rfl
                  clear HE2 CNM
                  have HD10 := Lib.hid (HD9.out.grown hg10 hr10 (by omega))
                  clear hr10 hg10
                  have c2 : w10.cell? ⟨gr, 2, none⟩ = some (.int .i64 2) := HD10.out.rd.c2
                  obtain ⟨b0, b1, b2, b3, b4, b5⟩ := HD10.out.box
                  replace b0 : w10.cell? ⟨w.heap.size + 1, 0, none⟩ = some (.int .i64 7) := b0
                  obtain ⟨d0, f0⟩ := HD10.out.fr.cells 0 _ rfl
                  obtain ⟨d1, f1⟩ := HD10.out.fr.cells 1 _ rfl
                  obtain ⟨d2, f2⟩ := HD10.out.fr.cells 2 _ rfl
                  obtain ⟨d3, f3⟩ := HD10.out.fr.cells 3 _ rfl
                  obtain ⟨d4, f4⟩ := HD10.out.fr.cells 4 _ rfl
                  obtain ⟨d5, f5⟩ := HD10.out.fr.cells 5 _ rfl
                  go_wp2_with fail
                  go_loopw [12] (fun i wr => i = .int .i64 0 ∧ wr = w10) (fun _ _ => 0)
                  case atStart => exact ⟨rfl, rfl⟩
                  case round =>
                    obtain ⟨rfl, hwr⟩ := hrel
                    rw [hwr]
                    clear hwr
                    by_cases hn0 : 0 < nF
                    · have hn1 : (0 : Int) < (nF : Int) := by omega
                      go_wp2_with fail
                      rw [HRS.out]
                      exact bodyPost_ret (v := .agg #[.int .i64 7, .int .i64 0, .string ⟨#[]⟩, .slice none 0 0, .slice aF nF cF, .slice aL nL cL]) (by simp [results, Tryd.results24, go_sem, *]) rfl HD10.out.err
                    · have hn1 : ¬ (0 : Int) < (nF : Int) := by omega
                      go_wp2_with fail
                      rw [HRS.out]
                      exact bodyPost_ret (v := .agg #[.int .i64 7, .int .i64 0, .string ⟨#[]⟩, .slice none 0 0, .slice aF nF cF, .slice aL nL cL]) (by simp [results, Tryd.results24, go_sem, *]) rfl HD10.out.err
                · obtain ⟨s, hs⟩ : ∃ s, s = strB ((b.drop (kk + 1)).take i) := ⟨_, rfl⟩
                  rw [← hs]
                  obtain ⟨k2, hk2⟩ : ∃ k2, k2 = kk + 1 + i + 1 := ⟨_, rfl⟩
                  rw [← hk2] at hr10
                  have hssz : s.size = i := by
                    rw [hs]
                    have e : (strB ((b.drop (kk + 1)).take i)).size = ((b.drop (kk + 1)).take i).length := ofBytes_size _
                    rw [e, List.length_take, List.length_drop]; omega
                  have hi3 : i ≤ 65536 := by have := HD9.out.rd.len; omega
                  have hs47 : s.size ≤ 140737488355328 := by omega
                  have HE3 : Hid (((if Bson.u8 s = false then .err 5 else if 120 < i then .err 15 else .ok s (b.drop k2) : Res ByteArray).bind fun s r2 => if true = true ∧ s ≠ Bson.digits acc.length then .err 4 else if acc.any (fun p => decide (p.1 = s)) = true then .err 6 else ((Bson.valOf (Bson.doc d false none) (Bson.doc d true none)) cb r2).bind fun v r3 => Bson.loop (Bson.valOf (Bson.doc d false none) (Bson.doc d true none)) true g2 (acc ++ [(s, v)]) r3).bind FIN = RES) := by
                    show _ = RES
                    rw [← HE2.out]
                    have e : Bson.name (b.drop (kk + 1)) = (if Bson.u8 s = false then .err 5 else if 120 < i then .err 15 else .ok s (b.drop k2) : Res ByteArray) := by
                      unfold Bson.name
                      rw [if_neg (by rw [← HI.out, List.length_drop]; omega), ← HI.out, List.drop_drop, hs, hk2, Nat.add_assoc (kk + 1)]; rfl
                    rw [e] <;> simp
                  have HD10 := Lib.hid (HD9.out.grown hg10 hr10 (by omega))
                  clear hr10 hg10
                  have hkk2 : kk + 1 ≤ k2 := by omega
                  clear HE2 CNM hs hi2
                  have c2 : w10.cell? ⟨gr, 2, none⟩ = some (.int .i64 0) := HD10.out.rd.c2
                  go_wp2_with fail
                  refine (utf8ref_any s w10 hs47).mono ?_
                  rintro e w11 ⟨rfl, hb11⟩
                  have HD11 := Lib.hid (HD10.out.kept hb11)
                  clear hb11 c2
                  obtain ⟨u, hu⟩ : ∃ u, u = Lib.validD s.data.toList := ⟨_, rfl⟩
                  have HU : Hid (Bson.u8 s = u) := hu.symm
                  rw [← hu]
                  clear hu
                  cases u with
                  | false =>
                    have HRS : Hid (RES = .err 5) := by show RES = _; rw [← HE3.out, if_pos HU.out]; rfl
                    clear HE3
                    go_wp2_with fail
                    refine (bad_any w11 gr _ bc b k2 5 HD11.out.rd).mono ?_
                    rintro e w12 ⟨⟨v12, rfl⟩, hr12, hg12⟩
                    have HD12 := Lib.hid (HD11.out.grown hg12 hr12 (Nat.le_refl _))
                    clear hr12 hg12
                    have c2 : w12.cell? ⟨gr, 2, none⟩ = some (.int .i64 5) := HD12.out.rd.c2
                    obtain ⟨b0, b1, b2, b3, b4, b5⟩ := HD12.out.box
                    replace b0 : w12.cell? ⟨w.heap.size + 1, 0, none⟩ = some (.int .i64 7) := b0
                    obtain ⟨d0, f0⟩ := HD12.out.fr.cells 0 _ rfl
                    obtain ⟨d1, f1⟩ := HD12.out.fr.cells 1 _ rfl
                    obtain ⟨d2, f2⟩ := HD12.out.fr.cells 2 _ rfl
                    obtain ⟨d3, f3⟩ := HD12.out.fr.cells 3 _ rfl
                    obtain ⟨d4, f4⟩ := HD12.out.fr.cells 4 _ rfl
                    obtain ⟨d5, f5⟩ := HD12.out.fr.cells 5 _ rfl
                    go_wp2_with fail
                    go_loopw [12] (fun i wr => i = .int .i64 0 ∧ wr = w12) (fun _ _ => 0)
                    case atStart => exact ⟨rfl, rfl⟩
                    case round =>
                      obtain ⟨rfl, hwr⟩ := hrel
                      rw [hwr]
                      clear hwr
                      by_cases hn0 : 0 < nF
                      · have hn1 : (0 : Int) < (nF : Int) := by omega
                        go_wp2_with fail
                        rw [HRS.out]
                        exact bodyPost_ret (v := .agg #[.int .i64 7, .int .i64 0, .string ⟨#[]⟩, .slice none 0 0, .slice aF nF cF, .slice aL nL cL]) (by simp [results, Tryd.results24, go_sem, *]) rfl HD12.out.err
                      · have hn1 : ¬ (0 : Int) < (nF : Int) := by omega
                        go_wp2_with fail
                        rw [HRS.out]
                        exact bodyPost_ret (v := .agg #[.int .i64 7, .int .i64 0, .string ⟨#[]⟩, .slice none 0 0, .slice aF nF cF, .slice aL nL cL]) (by simp [results, Tryd.results24, go_sem, *]) rfl HD12.out.err
                  | true =>
                    have c2 : w11.cell? ⟨gr, 2, none⟩ = some (.int .i64 0) := HD11.out.rd.c2
                    by_cases h120 : 120 < i
                    · have HRS : Hid (RES = .err 15) := by show RES = _; rw [← HE3.out, if_neg (by rw [HU.out]; decide), if_pos h120]; rfl
                      have hsb : (120 : Int) < (s.size : Int) := by omega
                      have hsn : 120 < s.size := by omega
                      clear HE3
                      go_wp2_with fail
                      refine (bad_any w11 gr _ bc b k2 15 HD11.out.rd).mono ?_
                      rintro e w12 ⟨⟨v12, rfl⟩, hr12, hg12⟩
                      clear c2
                      have HD12 := Lib.hid (HD11.out.grown hg12 hr12 (Nat.le_refl _))
                      clear hr12 hg12
                      have c2 : w12.cell? ⟨gr, 2, none⟩ = some (.int .i64 15) := HD12.out.rd.c2
                      obtain ⟨b0, b1, b2, b3, b4, b5⟩ := HD12.out.box
                      replace b0 : w12.cell? ⟨w.heap.size + 1, 0, none⟩ = some (.int .i64 7) := b0
                      obtain ⟨d0, f0⟩ := HD12.out.fr.cells 0 _ rfl
                      obtain ⟨d1, f1⟩ := HD12.out.fr.cells 1 _ rfl
                      obtain ⟨d2, f2⟩ := HD12.out.fr.cells 2 _ rfl
                      obtain ⟨d3, f3⟩ := HD12.out.fr.cells 3 _ rfl
                      obtain ⟨d4, f4⟩ := HD12.out.fr.cells 4 _ rfl
                      obtain ⟨d5, f5⟩ := HD12.out.fr.cells 5 _ rfl
                      go_wp2_with fail
                      go_loopw [12] (fun i wr => i = .int .i64 0 ∧ wr = w12) (fun _ _ => 0)
                      case atStart => exact ⟨rfl, rfl⟩
                      case round =>
                        obtain ⟨rfl, hwr⟩ := hrel
                        rw [hwr]
                        clear hwr
                        by_cases hn0 : 0 < nF
                        · have hn1 : (0 : Int) < (nF : Int) := by omega
                          go_wp2_with fail
                          rw [HRS.out]
                          exact bodyPost_ret (v := .agg #[.int .i64 7, .int .i64 0, .string ⟨#[]⟩, .slice none 0 0, .slice aF nF cF, .slice aL nL cL]) (by simp [results, Tryd.results24, go_sem, *]) rfl HD12.out.err
                        · have hn1 : ¬ (0 : Int) < (nF : Int) := by omega
                          go_wp2_with fail
                          rw [HRS.out]
                          exact bodyPost_ret (v := .agg #[.int .i64 7, .int .i64 0, .string ⟨#[]⟩, .slice none 0 0, .slice aF nF cF, .slice aL nL cL]) (by simp [results, Tryd.results24, go_sem, *]) rfl HD12.out.err
                    · have HE4 : Hid ((if s ≠ Bson.digits acc.length then .err 4 else if acc.any (fun p => decide (p.1 = s)) = true then .err 6 else ((Bson.valOf (Bson.doc d false none) (Bson.doc d true none)) cb (b.drop k2)).bind fun v r3 => Bson.loop (Bson.valOf (Bson.doc d false none) (Bson.doc d true none)) true g2 (acc ++ [(s, v)]) r3 : Res (List (ByteArray × Val))).bind FIN = RES) := by
                        show _ = RES
                        rw [← HE3.out, if_neg (show ¬ Bson.u8 s = false by rw [HU.out]; decide), if_neg h120]
                        simp only [res_ok_bindT, true_and]
                      have hsb : ¬ (120 : Int) < (s.size : Int) := by omega
                      have hsn : ¬ 120 < s.size := by omega
                      clear HE3 HU
                      have hnl : nL = acc.length := HNL.out
                      have hnl6 : nL ≤ 65536 := by have := HD11.out.ln; omega
                      have HNLE := Lib.hid hnl
                      clear hnl
                      obtain ⟨dg, hdg⟩ : ∃ x, x = Bson.digits nL := ⟨_, rfl⟩
                      have CDG := Lib.hid (digits_x nL w11 (by omega))
                      rw [← hdg] at CDG
                      have HDG := Lib.hid hdg
                      clear hdg
                      obtain ⟨-, -, -, -, -, b5⟩ := HD11.out.box
                      by_cases hs : s = dg
                      · subst hs
                        have hss : (s.toList == s.toList) = true := by simp
                        have HE5 : Hid ((((Bson.valOf (Bson.doc d false none) (Bson.doc d true none)) cb (b.drop k2)).bind fun v r3 => Bson.loop (Bson.valOf (Bson.doc d false none) (Bson.doc d true none)) true g2 (acc ++ [(s, v)]) r3 : Res (List (ByteArray × Val))).bind FIN = RES) := by
                          show _ = RES
                          rw [← HE4.out, if_neg (by rw [HDG.out, HNLE.out]; simp), if_neg (by
                            intro ha
                            obtain ⟨p, hp, hps⟩ := List.any_eq_true.1 ha
                            obtain ⟨j, hj, rfl⟩ := List.getElem_of_mem hp
                            have h1 := HD11.out.nm rfl j hj
                            have h2 : (acc[j]).1 = s := of_decide_eq_true hps
                            rw [h1, HDG.out] at h2
                            have h3 := Bson.digits_inj h2
                            have h4 := HNLE.out
                            omega)]
                        clear HE4
                        go_wp2_with fail
                        refine CDG.out.mono ?_
                        rintro e w12 ⟨rfl, hb12⟩
                        have HD12 := Lib.hid (HD11.out.kept hb12)
                        clear hb12 c2 b5
                        have c2 : w12.cell? ⟨gr, 2, none⟩ = some (.int .i64 0) := HD12.out.rd.c2
                        obtain ⟨-, -, -, -, b4, -⟩ := HD12.out.box
                        go_wp2_with fail
                        go_loopw [12] (fun i wr => i = .int .i64 0 ∧ wr = w12) (fun _ _ => 0)
                        case atStart => exact ⟨rfl, rfl⟩
                        case round =>
                          obtain ⟨rfl, hwr⟩ := hrel
                          rw [hwr]
                          clear hwr
                          have hnf0 : nF = 0 := HNF.out
                          have hn1 : ¬ (0 : Int) < (nF : Int) := by omega
                          have hn0 : ¬ 0 < nF := by omega
                          clear hnf0
                          have CV := Lib.hid (VAL.out cb w12 k2 HD12.out.rd)
                          have hk2b : k2 ≤ b.length := HD12.out.rd.le
                          cases hv : (Bson.valOf (Bson.doc d false none) (Bson.doc d true none)) cb (b.drop k2) with
                          | err n =>
                            have hn0 := Bson.told_valOf (Bson.told_doc d false none) (Bson.told_doc d true none) _ _ n hv
                            have hni : ((n : Int) != 0) = true := by rw [bne_iff_ne]; omega
                            have hnj : ¬ (n : Int) = 0 := by omega
                            have HRS : Hid (RES = .err n) := by
                              show RES = _
                              rw [← HE5.out, hv]; rfl
                            rw [hv] at CV
                            clear hv HE5
                            go_wp2_with fail
                            refine CV.out.mono ?_
                            rintro e w13 ⟨hg13, v, rfl, ⟨q1, q2, q3, a1, n1, m1, a2, n2, m2, a3, n3, m3, rfl⟩, k', hr13⟩
                            have HD13 := Lib.hid (HD12.out.moved hg13 hr13)
                            have HD14 : Hid (RDLoop true w gr _ bc b k' n acc (.slice aF nF cF) (.slice aL nL cL) (w13.alloc (.cells #[.int .i64 q1, .int .i64 q2, .string q3, .slice a1 n1 m1, .slice a2 n2 m2, .slice a3 n3 m3] 27))) := HD13.out.moved (grown_box _) (HD13.out.rd.keep ((Below.refl _ w13).alloc (Nat.le_refl _) _))
                            clear hg13 hr13 c2 b4
                            go_upto_region 37 with fail
                            generalize (w13.alloc (.cells #[.int .i64 q1, .int .i64 q2, .string q3, .slice a1 n1 m1, .slice a2 n2 m2, .slice a3 n3 m3] 27)) = w14 at *
                            have c2 := HD14.out.rd.c2
                            obtain ⟨b0, b1, b2, b3, b4, b5⟩ := HD14.out.box
                            replace b0 : w14.cell? ⟨w.heap.size + 1, 0, none⟩ = some (.int .i64 7) := b0
                            obtain ⟨d0, f0⟩ := HD14.out.fr.cells 0 _ rfl
                            obtain ⟨d1, f1⟩ := HD14.out.fr.cells 1 _ rfl
                            obtain ⟨d2, f2⟩ := HD14.out.fr.cells 2 _ rfl
                            obtain ⟨d3, f3⟩ := HD14.out.fr.cells 3 _ rfl
                            obtain ⟨d4, f4⟩ := HD14.out.fr.cells 4 _ rfl
                            obtain ⟨d5, f5⟩ := HD14.out.fr.cells 5 _ rfl
                            go_wp2_with fail
                            rw [HRS.out]
                            exact bodyPost_ret (v := .agg #[.int .i64 7, .int .i64 0, .string ⟨#[]⟩, .slice none 0 0, .slice aF nF cF, .slice aL nL cL]) (by simp [results, Tryd.results24, go_sem, *]) rfl HD14.out.err
                          | ok y r3 =>
                            have hless := Bson.less_valOf cb (b.drop k2) (Nat.le_refl _) y r3 hv
                            have HE6 : Hid ((Bson.loop (Bson.valOf (Bson.doc d false none) (Bson.doc d true none)) true g2 (acc ++ [(s, y)]) r3).bind FIN = RES) := by
                              show _ = RES
                              rw [← HE5.out, hv]; rfl
                            rw [hv] at CV
                            clear hv HE5
                            go_wp2_with fail
                            refine CV.out.mono ?_
                            rintro e w13 ⟨hg13, v, rfl, ⟨q1, q2, q3, a1, n1, m1, a2, n2, m2, a3, n3, m3, rfl⟩, k', rfl, hr13, hvy⟩
                            have hk'b : k' ≤ b.length := hr13.le
                            have hkk' : k2 ≤ k' := by rw [List.length_drop, List.length_drop] at hless; omega
                            have HD13 := Lib.hid (HD12.out.moved hg13 hr13)
                            have HD14 : Hid (RDLoop true w gr _ bc b k' 0 acc (.slice aF nF cF) (.slice aL nL cL) (w13.alloc (.cells #[.int .i64 q1, .int .i64 q2, .string q3, .slice a1 n1 m1, .slice a2 n2 m2, .slice a3 n3 m3] 27))) := HD13.out.moved (grown_box _) (HD13.out.rd.keep ((Below.refl _ w13).alloc (Nat.le_refl _) _))
                            have HBX : Hid ((w13.alloc (.cells #[.int .i64 q1, .int .i64 q2, .string q3, .slice a1 n1 m1, .slice a2 n2 m2, .slice a3 n3 m3] 27)).heap[w13.heap.size]? = some (.cells #[.int .i64 q1, .int .i64 q2, .string q3, .slice a1 n1 m1, .slice a2 n2 m2, .slice a3 n3 m3] 27 (0, 0))) := heap_alloc_new w13 _
                            have HV14 : Hid (ValV w12.heap.size (w13.alloc (.cells #[.int .i64 q1, .int .i64 q2, .string q3, .slice a1 n1 m1, .slice a2 n2 m2, .slice a3 n3 m3] 27)) y (.agg #[.int .i64 q1, .int .i64 q2, .string q3, .slice a1 n1 m1, .slice a2 n2 m2, .slice a3 n3 m3])) := hvy.alloc _
                            clear hg13 hr13 hvy hless CV c2 b4
                            go_upto_region 37 with fail
                            generalize (w13.alloc (.cells #[.int .i64 q1, .int .i64 q2, .string q3, .slice a1 n1 m1, .slice a2 n2 m2, .slice a3 n3 m3] 27)) = w14 at *
                            generalize w13.heap.size = T13 at *
                            have c2 : w14.cell? ⟨gr, 2, none⟩ = some (.int .i64 0) := HD14.out.rd.c2
                            obtain ⟨-, hh6, xs6, hf6⟩ := HD14.out.rl rfl
                            obtain ⟨-, hh12, xs12, hf12⟩ := HD12.out.rl rfl
                            have HLT12 : Hid (∀ g, (Value.slice aL nL cL).ownBlock = some g → g < w12.heap.size) := fun g e => (hf12.own.lt g e).2
                            have HGE : Hid (∀ g, (Value.slice aL nL cL).ownBlock = some g → w.heap.size + 2 ≤ g) := fun g e => (hf6.own.lt g e).1
                            have HB15 : Hid (Below w14.heap.size w14 (w14.alloc (.cells #[.int .i64 q1, .int .i64 q2, .string q3, .slice a1 n1 m1, .slice a2 n2 m2, .slice a3 n3 m3] 27))) := (Below.refl _ w14).alloc (Nat.le_refl _) _
                            have hown6 : (w14.alloc (.cells #[.int .i64 q1, .int .i64 q2, .string q3, .slice a1 n1 m1, .slice a2 n2 m2, .slice a3 n3 m3] 27)).ownsRow (w.heap.size + 2) 27 6 (Value.slice aL nL cL) acc.length xs6 := by
                              have h1 := owns_below hf6.own HB15.out
                              rw [List.length_map] at h1; exact h1
                            have HOWN := Lib.hid hown6
                            have HNW := Lib.hid (six_new w14 (.int .i64 q1) (.int .i64 q2) (.string q3) (.slice a1 n1 m1) (.slice a2 n2 m2) (.slice a3 n3 m3) 27)
                            have HF6 := Lib.hid hf6
                            have HSZ : Hid (w.heap.size + 2 ≤ (w14.alloc (.cells #[.int .i64 q1, .int .i64 q2, .string q3, .slice a1 n1 m1, .slice a2 n2 m2, .slice a3 n3 m3] 27)).heap.size) := Nat.le_trans HD14.out.sz HB15.out.size
                            have hln14 : acc.length ≤ 65536 := HD14.out.ln
                            have hacck : acc.length + 1 ≤ b.length := by omega
                            have hb65 : b.length ≤ 65536 := HD14.out.rd.len
                            have e0 := cell_of_row w14 T13 0 _ _ _ HBX.out
                            have e1 := cell_of_row w14 T13 1 _ _ _ HBX.out
                            have e2 := cell_of_row w14 T13 2 _ _ _ HBX.out
                            have e3 := cell_of_row w14 T13 3 _ _ _ HBX.out
                            have e4 := cell_of_row w14 T13 4 _ _ _ HBX.out
                            have e5 := cell_of_row w14 T13 5 _ _ _ HBX.out
                            obtain ⟨-, -, -, -, b4, b5⟩ := HD14.out.box
                            clear hf6 hf12 hown6
                            go_upto_region 40 with fail
                            refine wp_region_lit ?_
                            go_wp2_with (at_builtin; refine wpList_append_sz _ rfl (.tmp 182) (.tmp 184) 25 rfl (w.heap.size + 2) 27 i0 (.agg #[.int .i64 0, .int .i64 0, .string ⟨#[]⟩, .slice none 0 0, .slice none 0 0, .slice none 0 0]) 6 104 Tryd.underlying25 hi hz0 hz1 hz2 rfl (Value.slice aL nL cL) acc.length xs6 rfl HOWN.out ⟨w14.heap.size, 0, none⟩ 1 1 [.int .i64 q1, .int .i64 q2, .string q3, .slice a1 n1 m1, .slice a2 n2 m2, .slice a3 n3 m3] rfl rfl (by decide) (by decide) HNW.out (six_one _ _ _ _ _ _ _ _ _ _ _ _) (by unfold maxLen; omega) (by omega) HSZ.out ?_)
                            intro v9 w9 hown9 hlies9
                            obtain ⟨-, -, -, hbx9, -⟩ := HD14.out.behind (j := 5) (v' := v9) HB15.out (Wrote.of_lies hlies9) HGE.out rfl
                            obtain ⟨hy, hvy⟩ := HV14.out
                            have HD15 : Hid (RDLoop true w gr _ bc b k' 0 (acc ++ [(s, y)]) _ v9 (w9.setCell ⟨w.heap.size + 1, 5, none⟩ v9)) := HD14.out.pushL HF6.out HB15.out (Wrote.of_lies hlies9) hown9 (by rw [HDG.out, HNLE.out]) (by omega) (hvy.kept (Kept.of_below HB15.out) (fun g hg => ⟨by have h1 : w12.heap.size ≤ g := hg; have := HD12.out.sz; omega, fun e => by have h1 : w12.heap.size ≤ g := hg; have := HLT12.out g e; omega⟩))
                            have f9 := frozen_of_row w9 (w.heap.size + 1) 5 _ _ hbx9
                            have d9 : w9.cell? ⟨w.heap.size + 1, 5, none⟩ = some (Value.slice aL nL cL) := cell_of_row w9 (w.heap.size + 1) 5 _ _ _ hbx9
                            obtain ⟨a9, n9, c9, rfl⟩ : ∃ a n c, v9 = .slice a n c := by
                              rcases hown9.2 with ⟨rfl, _⟩ | ⟨gq, cap, cur, rfl, _⟩
                              · exact ⟨_, _, _, rfl⟩
                              · exact ⟨_, _, _, rfl⟩
                            clear hown9 hlies9 hbx9 hvy b4 b5
                            go_wp2_with fail
                            go_roundw
                            case rel => exact ⟨k', g2, _, _, _, HD15, HE6, by omega, by omega, by rw [List.length_append]; simp; omega⟩
                            case measure =>
                              rw [HD15.out.rd.pos, hpos]
                              omega
                      · have HRS : Hid (RES = .err 4) := by
                          show RES = _
                          rw [← HE4.out, if_pos (by rw [← HNLE.out, ← HDG.out]; exact hs)]; rfl
                        have hss := str_ne hs
                        clear HE4 hs
                        go_wp2_with fail
                        refine CDG.out.mono ?_
                        rintro e w12 ⟨rfl, hb12⟩
                        have HD12 := Lib.hid (HD11.out.kept hb12)
                        clear hb12 c2 b5
                        go_wp2_with fail
                        refine (bad_any w12 gr _ bc b k2 4 HD12.out.rd).mono ?_
                        rintro e w13 ⟨⟨v13, rfl⟩, hr13, hg13⟩
                        have HD13 := Lib.hid (HD12.out.grown hg13 hr13 (Nat.le_refl _))
                        clear hr13 hg13
                        have c2 : w13.cell? ⟨gr, 2, none⟩ = some (.int .i64 4) := HD13.out.rd.c2
                        obtain ⟨b0, b1, b2, b3, b4, b5⟩ := HD13.out.box
                        replace b0 : w13.cell? ⟨w.heap.size + 1, 0, none⟩ = some (.int .i64 7) := b0
                        obtain ⟨d0, f0⟩ := HD13.out.fr.cells 0 _ rfl
                        obtain ⟨d1, f1⟩ := HD13.out.fr.cells 1 _ rfl
                        obtain ⟨d2, f2⟩ := HD13.out.fr.cells 2 _ rfl
                        obtain ⟨d3, f3⟩ := HD13.out.fr.cells 3 _ rfl
                        obtain ⟨d4, f4⟩ := HD13.out.fr.cells 4 _ rfl
                        obtain ⟨d5, f5⟩ := HD13.out.fr.cells 5 _ rfl
                        go_wp2_with fail
                        go_loopw [12] (fun i wr => i = .int .i64 0 ∧ wr = w13) (fun _ _ => 0)
                        case atStart => exact ⟨rfl, rfl⟩
                        case round =>
                          obtain ⟨rfl, hwr⟩ := hrel
                          rw [hwr]
                          clear hwr
                          by_cases hn0 : 0 < nF
                          · have hn1 : (0 : Int) < (nF : Int) := by omega
                            go_wp2_with fail
                            rw [HRS.out]
                            exact bodyPost_ret (v := .agg #[.int .i64 7, .int .i64 0, .string ⟨#[]⟩, .slice none 0 0, .slice aF nF cF, .slice aL nL cL]) (by simp [results, Tryd.results24, go_sem, *]) rfl HD13.out.err
                          · have hn1 : ¬ (0 : Int) < (nF : Int) := by omega
                            go_wp2_with fail
                            rw [HRS.out]
                            exact bodyPost_ret (v := .agg #[.int .i64 7, .int .i64 0, .string ⟨#[]⟩, .slice none 0 0, .slice aF nF cF, .slice aL nL cL]) (by simp [results, Tryd.results24, go_sem, *]) rfl HD13.out.err
end Go.Proofs.YtpiookgkkaafeaaDoor
end
section
namespace Go.Proofs.YtpiookgkkaafeaaDoor
open Go.RowKit
open Seal
open Bson (Val Res)
set_option maxRecDepth 100000 in
set_option maxHeartbeats 2000000 in
/-- Too deep. -/
theorem refdoc_deep (list : Bool) (w : World) (gr : Nat) (ba : Option Addr) (bc : Nat) (b : List Nat) (k : Nat) (hR : RdE w gr ba bc b k 0) :
    Calls Tryd.prog 24 #[.pointer (some ⟨gr, 0, none⟩), .bool list, .int .i64 33] w (RPostE w.heap.size w gr ba bc b (.err 7)) := by
  have go : ∀ l : Bool, l = list → Hid (RDLoop l w gr ba bc b k 0 [] (.slice none 0 0) (.slice none 0 0) ((w.alloc (.cells zeroCs 27)).alloc (.cells #[.int .i64 (dz l), .int .i64 0, .string ⟨#[]⟩, .slice none 0 0, .slice none 0 0, .slice none 0 0] 27))) := fun l _ => by
    cases l with
    | false => exact RDLoop.newF hR
    | true => exact RDLoop.newT hR
  clear hR
  cases list with
  | false =>
    have HD1 := go false rfl
    clear go
    go_enter Tryd.func24, Tryd.ntmps24
    go_upto_region 4 with fail
    have HD1 : Hid (RDLoop false w gr ba bc b k 0 [] (.slice none 0 0) (.slice none 0 0) ((w.alloc (.cells zeroCs 27)).alloc (.cells #[.int .i64 6, .int .i64 0, .string ⟨#[]⟩, .slice none 0 0, .slice none 0 0, .slice none 0 0] 27))) := HD1
    generalize (w.alloc (.cells zeroCs 27)).alloc (.cells #[.int .i64 6, .int .i64 0, .string ⟨#[]⟩, .slice none 0 0, .slice none 0 0, .slice none 0 0] 27) = w1 at *
    have c1 := HD1.out.rd.c1
    go_wp2_with fail
    refine (bad_any w1 gr ba bc b k 7 HD1.out.rd).mono ?_
    rintro e w2 ⟨⟨v2, rfl⟩, hr2, hg2⟩
    have HD2 := Lib.hid (HD1.out.moved hg2 hr2)
    clear hr2 hg2 c1
    go_wp2_with fail
    refine (need_bad w2 gr ba bc b k 4 7 HD2.out.rd (by decide)).mono ?_
    rintro e w3 ⟨rfl, q3, rfl⟩
    have HD3 := Lib.hid (HD2.out.dr q3)
    generalize w2.drewN q3 = w3 at *
    obtain ⟨b0, b1, b2, b3, b4, b5⟩ := HD3.out.box
    replace b0 : w3.cell? ⟨w.heap.size + 1, 0, none⟩ = some (.int .i64 6) := b0
    obtain ⟨d0, f0⟩ := HD3.out.fr.cells 0 _ rfl
    obtain ⟨d1, f1⟩ := HD3.out.fr.cells 1 _ rfl
    obtain ⟨d2, f2⟩ := HD3.out.fr.cells 2 _ rfl
    obtain ⟨d3, f3⟩ := HD3.out.fr.cells 3 _ rfl
    obtain ⟨d4, f4⟩ := HD3.out.fr.cells 4 _ rfl
    obtain ⟨d5, f5⟩ := HD3.out.fr.cells 5 _ rfl
    go_wp2_with fail
    exact bodyPost_ret (v := .agg #[.int .i64 6, .int .i64 0, .string ⟨#[]⟩, .slice none 0 0, .slice none 0 0, .slice none 0 0]) (by simp [results, Tryd.results24, go_sem, *]) rfl HD3.out.err
  | true =>
    have HD1 := go true rfl
    clear go
    go_enter Tryd.func24, Tryd.ntmps24
    go_upto_region 4 with fail
    have HD1 : Hid (RDLoop true w gr ba bc b k 0 [] (.slice none 0 0) (.slice none 0 0) ((w.alloc (.cells zeroCs 27)).alloc (.cells #[.int .i64 7, .int .i64 0, .string ⟨#[]⟩, .slice none 0 0, .slice none 0 0, .slice none 0 0] 27))) := HD1
    generalize (w.alloc (.cells zeroCs 27)).alloc (.cells #[.int .i64 7, .int .i64 0, .string ⟨#[]⟩, .slice none 0 0, .slice none 0 0, .slice none 0 0] 27) = w1 at *
    have c1 := HD1.out.rd.c1
    go_wp2_with fail
    refine (bad_any w1 gr ba bc b k 7 HD1.out.rd).mono ?_
    rintro e w2 ⟨⟨v2, rfl⟩, hr2, hg2⟩
    have HD2 := Lib.hid (HD1.out.moved hg2 hr2)
    clear hr2 hg2 c1
    go_wp2_with fail
    refine (need_bad w2 gr ba bc b k 4 7 HD2.out.rd (by decide)).mono ?_
    rintro e w3 ⟨rfl, q3, rfl⟩
    have HD3 := Lib.hid (HD2.out.dr q3)
    generalize w2.drewN q3 = w3 at *
    obtain ⟨b0, b1, b2, b3, b4, b5⟩ := HD3.out.box
    replace b0 : w3.cell? ⟨w.heap.size + 1, 0, none⟩ = some (.int .i64 7) := b0
    obtain ⟨d0, f0⟩ := HD3.out.fr.cells 0 _ rfl
    obtain ⟨d1, f1⟩ := HD3.out.fr.cells 1 _ rfl
    obtain ⟨d2, f2⟩ := HD3.out.fr.cells 2 _ rfl
    obtain ⟨d3, f3⟩ := HD3.out.fr.cells 3 _ rfl
    obtain ⟨d4, f4⟩ := HD3.out.fr.cells 4 _ rfl
    obtain ⟨d5, f5⟩ := HD3.out.fr.cells 5 _ rfl
    go_wp2_with fail
    exact bodyPost_ret (v := .agg #[.int .i64 7, .int .i64 0, .string ⟨#[]⟩, .slice none 0 0, .slice none 0 0, .slice none 0 0]) (by simp [results, Tryd.results24, go_sem, *]) rfl HD3.out.err
/-- doc, exactly. -/
theorem refdoc_any (gr : Nat) (ba : Option Addr) (bc : Nat) (b : List Nat) : ∀ (d : Nat) (list : Bool) (w : World) (k : Nat) (dp : Int), 1 ≤ dp → dp + d = 33 → RdE w gr ba bc b k 0 →
    Calls Tryd.prog 24 #[.pointer (some ⟨gr, 0, none⟩), .bool list, .int .i64 dp] w (RPostE w.heap.size w gr ba bc b (Bson.doc d list (if dp = 1 then some b.length else none) (b.drop k)))
  | 0, list, w, k, dp, _, hd, hR => by
    obtain rfl : dp = 33 := by omega
    exact refdoc_deep list w gr ba bc b k hR
  | d + 1, list, w, k, dp, h1, hd, hR => by
    have IH := refdoc_any gr ba bc b d
    have VAL : ∀ (c : Nat) (W : World) (k2 : Nat), RdE W gr ba bc b k2 0 → Calls Tryd.prog 48 #[.pointer (some ⟨gr, 0, none⟩), .int .u8 (c : Int), .int .i64 dp] W (RPostE W.heap.size W gr ba bc b (Bson.valOf (Bson.doc d false none) (Bson.doc d true none) c (b.drop k2))) := fun c W k2 hW => by
      have hn : ¬ dp + 1 = 1 := by omega
      refine rvalue_any W gr ba bc b k2 c dp (by omega) (by omega) _ _ hW (fun w1 hr => ?_) (fun w1 hr => ?_)
      · have h := IH false w1 k2 (dp + 1) (by omega) (by omega) hr
        rw [if_neg hn] at h; exact h
      · have h := IH true w1 k2 (dp + 1) (by omega) (by omega) hr
        rw [if_neg hn] at h; exact h
    cases list with
    | false => exact rdocF d w gr ba bc b k dp h1 (by omega) hR VAL
    | true => exact rdocT d w gr ba bc b k dp h1 (by omega) hR VAL
end Go.Proofs.YtpiookgkkaafeaaDoor
end
section
namespace Go.Proofs.YtpiookgkkaafeaaDoor
open Go.RowKit
open Seal
open Bson (Val Res)
/-- What Decode answers, for these bytes. -/
def DecE (w : World) (b : List Nat) (e : Ending) (w' : World) : Prop := Below w.heap.size w w' ∧
  match Bson.doc 32 false (some b.length) b with
  | .err n => e = .returned (.tuple #[zeroV, .int .i64 (n : Int)])
  | .ok x _ => ∃ v, e = .returned (.tuple #[v, .int .i64 0]) ∧ SixV v ∧ ValV w.heap.size w' x v
theorem below_of_grown {w w' : World} {gr : Nat} (h : w.grownBy w' (some gr)) (hg : w.heap.size ≤ gr) : Below w.heap.size w w' :=
  ⟨h.os, h.tape, h.output, h.size, fun g hgl => h.block g hgl (fun e => by have := Option.some.inj e; omega)⟩
set_option maxRecDepth 100000 in
set_option maxHeartbeats 2000000 in
theorem refdecode_any (w : World) (ba : Option Addr) (bc : Nat) (b : List Nat) (hs : SliceIs w ba b) (hlen : b.length ≤ 65536) (hcap : b.length ≤ bc) (hmax : bc ≤ 9223372036854775807) (ho : Oct b) :
    Calls Tryd.prog 12 #[.slice ba b.length bc] w (DecE w b) := by
  have hb1 : Below w.heap.size w (w.alloc (.cells zeroCs 27)) := (Below.refl _ w).alloc (Nat.le_refl _) _
  have hb2 : Below w.heap.size w ((w.alloc (.cells zeroCs 27)).alloc (.cells #[.slice ba b.length bc, .int .i64 0, .int .i64 0] 63)) := hb1.alloc (by simp) _
  have hsz : (w.alloc (.cells zeroCs 27)).heap.size = w.heap.size + 1 := by simp
  have hn := heap_alloc_new (w.alloc (.cells zeroCs 27)) (.cells #[.slice ba b.length bc, .int .i64 0, .int .i64 0] 63)
  rw [hsz] at hn
  have HR1 : Hid (RdE ((w.alloc (.cells zeroCs 27)).alloc (.cells #[.slice ba b.length bc, .int .i64 0, .int .i64 0] 63)) (w.heap.size + 1) ba bc b 0 0) := ⟨hn, hs.keep hb2, Nat.zero_le _, hlen, hcap, hmax, ho⟩
  have HF1 : Hid (Fresh w ((w.alloc (.cells zeroCs 27)).alloc (.cells #[.slice ba b.length bc, .int .i64 0, .int .i64 0] 63))) := by
    have hf : Fresh w (w.alloc (.cells zeroCs 27)) := Fresh.new w
    show ((w.alloc (.cells zeroCs 27)).alloc (.cells #[.slice ba b.length bc, .int .i64 0, .int .i64 0] 63)).heap[w.heap.size]? = _
    rw [Below.heap_alloc _ _ _ (by simp)]
    exact hf
  have HB1 := Lib.hid hb2
  have HS1 : Hid (w.heap.size + 2 ≤ ((w.alloc (.cells zeroCs 27)).alloc (.cells #[.slice ba b.length bc, .int .i64 0, .int .i64 0] 63)).heap.size) := by show _ ≤ _; simp
  have hlx : (b.length : Int) ≤ 65536 := by omega
  have hlx2 : ¬ (65536 : Int) < (b.length : Int) := by omega
  have hlx3 : ¬ 65536 < b.length := by omega
  clear hb1 hb2 hsz hn hs ho
  go_enter Tryd.func12, Tryd.ntmps12
  go_upto_region 4 with fail
  generalize (w.alloc (.cells zeroCs 27)).alloc (.cells #[.slice ba b.length bc, .int .i64 0, .int .i64 0] 63) = w1 at *
  go_wp2_with fail
  refine (refdoc_any (w.heap.size + 1) ba bc b 32 false w1 0 1 (by decide) (by decide) HR1.out).mono ?_
  rintro e w2 ⟨hg2, v, rfl, ⟨q1, q2, q3, a1, n1, m1, a2, n2, m2, a3, n3, m3, rfl⟩, hm⟩
  have HM := Lib.hid hm
  have HG2 := Lib.hid hg2
  have hsz2 : w.heap.size + 2 ≤ w2.heap.size := Nat.le_trans HS1.out hg2.size
  have HF2 : Hid (Fresh w w2) := (hg2.block w.heap.size (by have := HS1.out; omega) (fun e => by have := Option.some.inj e; omega)).trans HF1.out
  have HG : Hid (w.grownBy w2 (some (w.heap.size + 1))) := grown_trans (grown_below HB1.out _) hg2
  have HG3 : Hid (w.grownBy (w2.alloc (.cells #[.int .i64 q1, .int .i64 q2, .string q3, .slice a1 n1 m1, .slice a2 n2 m2, .slice a3 n3 m3] 27)) (some (w.heap.size + 1))) := grown_trans HG.out (grown_box _)
  have HF3 : Hid (Fresh w (w2.alloc (.cells #[.int .i64 q1, .int .i64 q2, .string q3, .slice a1 n1 m1, .slice a2 n2 m2, .slice a3 n3 m3] 27))) := (((Below.refl _ w2).alloc (Nat.le_refl _) _).block w.heap.size (by omega)).trans HF2.out
  have HBX : Hid ((w2.alloc (.cells #[.int .i64 q1, .int .i64 q2, .string q3, .slice a1 n1 m1, .slice a2 n2 m2, .slice a3 n3 m3] 27)).heap[w2.heap.size]? = some (.cells #[.int .i64 q1, .int .i64 q2, .string q3, .slice a1 n1 m1, .slice a2 n2 m2, .slice a3 n3 m3] 27 (0, 0))) := heap_alloc_new w2 _
  obtain ⟨RES, hRES⟩ : ∃ r, r = Bson.doc 32 false (some b.length) b := ⟨_, rfl⟩
  have HRES := Lib.hid hRES
  rw [if_pos rfl, List.drop_zero, ← hRES] at hm
  clear hg2 HM hRES
  cases RES with
  | err n =>
    obtain ⟨k', hr⟩ := hm
    have hn0 := Bson.told_doc 32 false (some b.length) b n HRES.out.symm
    have hni : ((n : Int) != 0) = true := by rw [bne_iff_ne]; omega
    have hnj : ¬ (n : Int) = 0 := by omega
    have HR3 : Hid (RdE (w2.alloc (.cells #[.int .i64 q1, .int .i64 q2, .string q3, .slice a1 n1 m1, .slice a2 n2 m2, .slice a3 n3 m3] 27)) (w.heap.size + 1) ba bc b k' n) := hr.keep ((Below.refl _ w2).alloc (Nat.le_refl _) _)
    clear hr
    go_upto_region 5 with fail
    generalize (w2.alloc (.cells #[.int .i64 q1, .int .i64 q2, .string q3, .slice a1 n1 m1, .slice a2 n2 m2, .slice a3 n3 m3] 27)) = w3 at *
    have c2 := HR3.out.c2
    go_wp2_with fail
    have hkeep := c2
    refine wp_region_held_drew (S := fun W => W.cell? ⟨w.heap.size + 1, 2, none⟩ = some (.int .i64 (n : Int))) (by kernel_rfl) (by exact hkeep) (fun hHeld => ?_)
    have HR4 : Hid (RdE w3.drew (w.heap.size + 1) ba bc b k' n) := HR3.out.dr 1
    have HG4 : Hid (w.grownBy w3.drew (some (w.heap.size + 1))) := grown_trans HG3.out (grown_drewN w3 1 _)
    have HF4 : Hid (Fresh w w3.drew) := HF3.out.dr 1
    clear hkeep c2
    generalize w3.drew = w4 at *
    refine wpAnyH_take (i := 0) (v := ?_) rfl (by kernel_rfl) (by kernel_rfl) (by kernel_rfl) (fun _ _ _ h => h) (Or.inl ⟨by kernel_rfl, ?_⟩) (by assumption) ?_
    rotate_left
    · intro wS hSw
      (try dsimp only at hSw)
      go_simp
      try (with_reducible rfl)
    try simp only [List.getElem_toArray, List.getElem_cons_zero, Act.put, List.setIfInBounds_toArray, List.set_cons_zero, List.set_cons_succ]
    refine wpAnyH_take (i := 1) (v := ?_) rfl (by kernel_rfl) (by kernel_rfl) (by kernel_rfl) (fun _ _ _ h => h) (Or.inl ⟨by kernel_rfl, ?_⟩) (by assumption) ?_
    rotate_left
    · intro wS hSw
      (try dsimp only at hSw)
      go_simp
      try (with_reducible rfl)
    try simp only [List.getElem_toArray, List.getElem_cons_succ, List.getElem_cons_zero, Act.put, List.setIfInBounds_toArray, List.set_cons_zero, List.set_cons_succ]
    refine wpAnyH_take (i := 2) (v := ?_) rfl (by kernel_rfl) (by kernel_rfl) (by kernel_rfl) (fun _ _ _ h => h) (Or.inl ⟨by kernel_rfl, ?_⟩) (by assumption) ?_
    rotate_left
    · intro wS hSw
      (try dsimp only at hSw)
      go_simp
      try (with_reducible rfl)
    try simp only [List.getElem_toArray, List.getElem_cons_succ, List.getElem_cons_zero, Act.put, List.setIfInBounds_toArray, List.set_cons_zero, List.set_cons_succ]
    refine wpAnyH_take (i := 3) (v := ?_) rfl (by kernel_rfl) (by kernel_rfl) (by kernel_rfl) (fun _ _ _ h => h) (Or.inl ⟨by kernel_rfl, ?_⟩) (by assumption) ?_
    rotate_left
    · intro wS hSw
      (try dsimp only at hSw)
      go_simp
      try (with_reducible rfl)
    try simp only [List.getElem_toArray, List.getElem_cons_succ, List.getElem_cons_zero, Act.put, List.setIfInBounds_toArray, List.set_cons_zero, List.set_cons_succ]
    refine wpAnyH_take (i := 4) (v := ?_) rfl (by kernel_rfl) (by kernel_rfl) (by kernel_rfl) (fun _ _ _ h => h) (Or.inl ⟨by kernel_rfl, ?_⟩) (by assumption) ?_
    rotate_left
    · intro wS hSw
      (try dsimp only at hSw)
      go_simp
      try (with_reducible rfl)
    try simp only [List.getElem_toArray, List.getElem_cons_succ, List.getElem_cons_zero, Act.put, List.setIfInBounds_toArray, List.set_cons_zero, List.set_cons_succ]
    refine wpAnyH_ready (rs := [5]) (by kernel_rfl) (by simp) ?_
    refine AllReadyH.cons rfl (fun K hK => ?_) AllReadyH.nil
    obtain ⟨d0, f0⟩ := HF4.out.cells 0 _ rfl
    obtain ⟨d1, f1⟩ := HF4.out.cells 1 _ rfl
    obtain ⟨d2, f2⟩ := HF4.out.cells 2 _ rfl
    obtain ⟨d3, f3⟩ := HF4.out.cells 3 _ rfl
    obtain ⟨d4, f4⟩ := HF4.out.cells 4 _ rfl
    obtain ⟨d5, f5⟩ := HF4.out.cells 5 _ rfl
    go_simp
    have hkeep2 : (six w4 w.heap.size (.int .i64 0) (.int .i64 0) (.string ⟨#[]⟩) (.slice none 0 0) (.slice none 0 0) (.slice none 0 0)).cell? ⟨w.heap.size + 1, 2, none⟩ = some (.int .i64 (n : Int)) := (HR4.out.six (B := w.heap.size) (by omega) HF4.out.no_byte (.int .i64 0) (.int .i64 0) (.string ⟨#[]⟩) (.slice none 0 0) (.slice none 0 0) (.slice none 0 0)).c2
    refine hK.out _ _ (by exact hkeep2) (fun hHeld => ?_)
    clear hK K hkeep2
    try simp only [List.getElem_toArray, List.getElem_cons_succ, List.getElem_cons_zero, Act.put, List.setIfInBounds_toArray, List.set_cons_zero, List.set_cons_succ]
    refine wpAnyH_take (i := 6) (v := ?_) rfl (by kernel_rfl) (by kernel_rfl) (by kernel_rfl) (fun _ _ _ h => h) (Or.inl ⟨by kernel_rfl, ?_⟩) (by assumption) ?_
    rotate_left
    · intro wS hSw
      (try dsimp only at hSw)
      go_simp
      try (with_reducible rfl)
    try simp only [List.getElem_toArray, List.getElem_cons_succ, List.getElem_cons_zero, Act.put, List.setIfInBounds_toArray, List.set_cons_zero, List.set_cons_succ]
    refine wpAnyH_done (by kernel_rfl) ?_ _
    go_wp2_with fail
    exact bodyPost_ret (v := .tuple #[zeroV, .int .i64 (n : Int)]) (by simp [results, Tryd.results12, go_sem, zeroV, *]) rfl ⟨below_of_grown (grown_six HG4.out (Nat.le_refl _) (.int .i64 0) (.int .i64 0) (.string ⟨#[]⟩) (.slice none 0 0) (.slice none 0 0) (.slice none 0 0)) (by omega), by rw [← HRES.out]⟩
  | ok x r =>
    obtain ⟨k', hrr, hr, hv⟩ := hm
    have HV3 : Hid (ValV (w.heap.size + 1) (w2.alloc (.cells #[.int .i64 q1, .int .i64 q2, .string q3, .slice a1 n1 m1, .slice a2 n2 m2, .slice a3 n3 m3] 27)) x (.agg #[.int .i64 q1, .int .i64 q2, .string q3, .slice a1 n1 m1, .slice a2 n2 m2, .slice a3 n3 m3])) := (hv.less (by have := HS1.out; omega)).alloc _
    have HR3 : Hid (RdE (w2.alloc (.cells #[.int .i64 q1, .int .i64 q2, .string q3, .slice a1 n1 m1, .slice a2 n2 m2, .slice a3 n3 m3] 27)) (w.heap.size + 1) ba bc b k' 0) := hr.keep ((Below.refl _ w2).alloc (Nat.le_refl _) _)
    clear hr hv hrr
    go_upto_region 5 with fail
    generalize (w2.alloc (.cells #[.int .i64 q1, .int .i64 q2, .string q3, .slice a1 n1 m1, .slice a2 n2 m2, .slice a3 n3 m3] 27)) = w3 at *
    generalize w2.heap.size = T at *
    have c2 : w3.cell? ⟨w.heap.size + 1, 2, none⟩ = some (.int .i64 0) := HR3.out.c2
    have e0 := cell_of_row w3 T 0 _ _ _ HBX.out
    have e1 := cell_of_row w3 T 1 _ _ _ HBX.out
    have e2 := cell_of_row w3 T 2 _ _ _ HBX.out
    have e3 := cell_of_row w3 T 3 _ _ _ HBX.out
    have e4 := cell_of_row w3 T 4 _ _ _ HBX.out
    have e5 := cell_of_row w3 T 5 _ _ _ HBX.out
    obtain ⟨d0, f0⟩ := HF3.out.cells 0 _ rfl
    obtain ⟨d1, f1⟩ := HF3.out.cells 1 _ rfl
    obtain ⟨d2, f2⟩ := HF3.out.cells 2 _ rfl
    obtain ⟨d3, f3⟩ := HF3.out.cells 3 _ rfl
    obtain ⟨d4, f4⟩ := HF3.out.cells 4 _ rfl
    obtain ⟨d5, f5⟩ := HF3.out.cells 5 _ rfl
    go_wp2_with fail
    exact bodyPost_ret (v := .tuple #[.agg #[.int .i64 q1, .int .i64 q2, .string q3, .slice a1 n1 m1, .slice a2 n2 m2, .slice a3 n3 m3], .int .i64 0]) (by simp [results, Tryd.results12, go_sem, *]) rfl ⟨below_of_grown (grown_six HG3.out (Nat.le_refl _) _ _ _ _ _ _) (by omega), by rw [← HRES.out]; exact ⟨_, rfl, ⟨_, _, _, _, _, _, _, _, _, _, _, _, rfl⟩, HV3.out.stored_at _ _ _ _ _ _⟩⟩
end Go.Proofs.YtpiookgkkaafeaaDoor
end
section
namespace Go.Proofs.YtpiookgkkaafeaaDoor
open Go.RowKit
open Seal
open Bson (Val)
theorem refdecode_val (w : World) (ba : Option Addr) (bc : Nat) (b : List Nat) (hs : SliceIs w ba b) (hlen : b.length ≤ 65536) (hcap : b.length ≤ bc) (hmax : bc ≤ 9223372036854775807) (ho : Oct b) :
    Calls Tryd.prog 12 #[.slice ba b.length bc] w fun e w' => ∃ v, e = .returned (.tuple #[v, .int .i64 ((Bson.decode b).1 : Int)]) ∧ ValV w.heap.size w' (Bson.decode b).2 v ∧ Below w.heap.size w w' := by
  refine (refdecode_any w ba bc b hs hlen hcap hmax ho).mono ?_
  rintro e w' ⟨hb, hm⟩
  unfold Bson.decode
  rw [if_neg (by omega)]
  cases hd : Bson.doc 32 false (some b.length) b with
  | err n =>
    rw [hd] at hm
    exact ⟨_, hm, vin_flat _ _ 0 0 ⟨#[]⟩ (by decide) (by decide) (by decide) (by decide) (by decide), hb⟩
  | ok x r =>
    rw [hd] at hm
    obtain ⟨v, he, _, hv⟩ := hm
    exact ⟨v, he, hv, hb⟩
set_option maxRecDepth 100000 in
set_option maxHeartbeats 4000000 in
theorem decodes5_any (ba : Option Addr) (bc : Nat) (b : List Nat) (w : World) (hlen : b.length ≤ 9223372036854775807) (hcap : b.length ≤ bc) (hmax : bc ≤ 9223372036854775807) (ho : Oct b) (hs : SliceIs w ba b) (hT : Tabs w) : Calls Tryd.prog 3 #[.slice ba b.length bc] w fun e w' => e = .returned (.bool true) ∧ Below w.heap.size w w' := by
  have HS := Lib.hid hs
  have HO := Lib.hid ho
  have HT := Lib.hid hT
  have CA := Lib.hid (awake5_any w hT)
  obtain ⟨L, hL⟩ : ∃ L, L = b.length := ⟨_, rfl⟩
  have HL := Lib.hid hL
  rw [← hL] at hlen hcap ⊢
  clear hs ho hT hL
  go_enter Tryd.func3, Tryd.ntmps3
  go_wp2_with fail
  refine CA.out.mono ?_
  rintro e w1 ⟨rfl, hb1⟩
  have HB1 := Lib.hid hb1
  have HT1 := Lib.hid (HT.out.below hb1)
  have HS1 := Lib.hid (HS.out.keep hb1)
  clear hb1 CA
  by_cases h5 : 5000 < L
  · have h5i : (5000 : Int) < (L : Int) := by omega
    go_wp2_with fail
    go_ret
    exact ⟨rfl, HB1.out⟩
  · have h5i : ¬ (5000 : Int) < (L : Int) := by omega
    have CD := Lib.hid (decode_any w1 ba bc b (by rw [← HL.out]; exact hcap) hmax HS1.out HO.out HT1.out)
    rw [← HL.out] at CD
    obtain ⟨n, hn⟩ : ∃ n, n = (Bson.decode b).1 := ⟨_, rfl⟩
    obtain ⟨x, hx⟩ : ∃ x, x = (Bson.decode b).2 := ⟨_, rfl⟩
    have HDX : Hid (Bson.decode b = (n, x)) := by show _ = _; rw [hn, hx]
    have CR0 := Lib.hid (fun (W : World) (hs : SliceIs W ba b) => refdecode_val W ba bc b hs (by have := HL.out; omega) (by rw [← HL.out]; exact hcap) hmax HO.out)
    rw [← HL.out] at CR0
    rw [← hn, ← hx] at CD CR0
    clear hn hx
    go_wp2_with fail
    refine CD.out.mono ?_
    rintro e w2 ⟨v2, rfl, ⟨h2, hv2⟩, hb2⟩
    obtain ⟨q1, q2, q3, a1, n1, d1, a2, n2, d2, a3, n3, d3, rfl⟩ := VIn.form hv2
    have HB3 : Hid (Below w1.heap.size w1 (w2.alloc (.cells #[.int .i64 q1, .int .i64 q2, .string q3, .slice a1 n1 d1, .slice a2 n2 d2, .slice a3 n3 d3] 27))) := hb2.alloc hb2.size _
    have HY3 := Lib.hid (IsBox.new w2 (.int .i64 q1) (.int .i64 q2) (.string q3) (.slice a1 n1 d1) (.slice a2 n2 d2) (.slice a3 n3 d3))
    have HW3 := Lib.hid (VIn.keep ((Below.refl _ w2).alloc (Nat.le_refl _) (.cells #[.int .i64 q1, .int .i64 q2, .string q3, .slice a1 n1 d1, .slice a2 n2 d2, .slice a3 n3 d3] 27)) hv2)
    have HT3 := Lib.hid (HT1.out.below HB3.out)
    have HS3 := Lib.hid (HS1.out.keep HB3.out)
    have HBW3 : Hid (Below w.heap.size w (w2.alloc (.cells #[.int .i64 q1, .int .i64 q2, .string q3, .slice a1 n1 d1, .slice a2 n2 d2, .slice a3 n3 d3] 27))) := HB1.out.trans (HB3.out.mono HB1.out.size)
    have CR := Lib.hid (CR0.out _ HS3.out)
    clear hv2 hb2 CD CR0
    go_wp2_with fail
    generalize w2.heap.size = T2 at *
    generalize w2.alloc (.cells #[.int .i64 q1, .int .i64 q2, .string q3, .slice a1 n1 d1, .slice a2 n2 d2, .slice a3 n3 d3] 27) = w3 at *
    refine CR.out.mono ?_
    rintro e w4 ⟨v4, rfl, ⟨h4, hv4⟩, hb4⟩
    obtain ⟨r1, r2, r3, b1, m1, e1, b2, m2, e2, b3, m3, e3, rfl⟩ := VIn.form hv4
    have HB5 : Hid (Below w3.heap.size w3 (w4.alloc (.cells #[.int .i64 r1, .int .i64 r2, .string r3, .slice b1 m1 e1, .slice b2 m2 e2, .slice b3 m3 e3] 27))) := hb4.alloc hb4.size _
    have HY5 := Lib.hid (IsBox.new w4 (.int .i64 r1) (.int .i64 r2) (.string r3) (.slice b1 m1 e1) (.slice b2 m2 e2) (.slice b3 m3 e3))
    have HZ5 := Lib.hid (VIn.keep ((Below.refl _ w4).alloc (Nat.le_refl _) (.cells #[.int .i64 r1, .int .i64 r2, .string r3, .slice b1 m1 e1, .slice b2 m2 e2, .slice b3 m3 e3] 27)) hv4)
    have HW5 := Lib.hid (VIn.keep HB5.out HW3.out)
    have HX5 := Lib.hid (HY3.out.keep HB5.out)
    have HT5 := Lib.hid (HT3.out.below HB5.out)
    have HS5 := Lib.hid (HS3.out.keep HB5.out)
    have HBW5 : Hid (Below w.heap.size w (w4.alloc (.cells #[.int .i64 r1, .int .i64 r2, .string r3, .slice b1 m1 e1, .slice b2 m2 e2, .slice b3 m3 e3] 27))) := HBW3.out.trans (HB5.out.mono HBW3.out.size)
    obtain ⟨x0, x1, x2, x3, x4, x5⟩ := HX5.out.cells
    obtain ⟨y0, y1, y2, y3, y4, y5⟩ := HY5.out.cells
    clear hv4 hb4 CR
    have hnn : ((n : Int) != (n : Int)) = false := by simp
    go_wp2_with fail
    go_at_call 13
    refine (same_any h2 h4 _ _ _ _ _ _ _ HW5.out HZ5.out).mono ?_
    rintro e w6 ⟨b6, rfl, hsame, hb6⟩
    obtain rfl : b6 = true := hsame.2 rfl
    have HX6 := Lib.hid (HX5.out.keep hb6)
    have HW6 := Lib.hid (VIn.keep hb6 HW5.out)
    have HT6 := Lib.hid (HT5.out.below hb6)
    have HS6 := Lib.hid (HS5.out.keep hb6)
    have HBW6 : Hid (Below w.heap.size w w6) := HBW5.out.trans (hb6.mono HBW5.out.size)
    clear hsame hb6 x0 x1 x2 x3 x4 x5 y0 y1 y2 y3 y4 y5 hnn
    obtain ⟨x0, x1, x2, x3, x4, x5⟩ := HX6.out.cells
    by_cases h0 : n = 0
    · subst h0
      obtain ⟨hl65, henc, hk6⟩ := Bson.decode_enc HDX.out HO.out
      have hdb : docB x = some b := by unfold docB; rw [if_pos hk6, henc]; show (if _ then _ else _) = _; rw [if_pos hl65]
      have HDB := Lib.hid hdb
      have CE := Lib.hid (encode_ok (fun g => w1.heap.size ≤ g ∧ g < w6.heap.size) h2 x _ w6 b HW6.out.lt (fun _ hg => hg.2) HT6.out hdb)
      clear hl65 henc hk6 hdb
      go_wp2_with fail
      go_at_call 14
      refine CE.out.mono ?_
      rintro e w7 ⟨v7, rfl, hO7, hb7⟩
      obtain ⟨a7, c7, rfl, hc7, hm7, hs7, -⟩ := hO7.reads
      have HX7 := Lib.hid (HX6.out.keep hb7)
      have HW7 := Lib.hid (VIn.keep hb7 HW6.out)
      have HT7 := Lib.hid (HT6.out.below hb7)
      have HBW7 : Hid (Below w.heap.size w w7) := HBW6.out.trans (hb7.mono HBW6.out.size)
      have hcv1 := conv_str w7 a7 L c7 b HL.out.symm hs7
      have hcv2 := conv_str w7 ba L bc b HL.out.symm (HS6.out.keep hb7)
      clear hO7 hb7 hs7 CE x0 x1 x2 x3 x4 x5
      obtain ⟨x0, x1, x2, x3, x4, x5⟩ := HX7.out.cells
      rw [← HL.out]
      obtain ⟨sb, hsb⟩ : ∃ sb, sb = strB b := ⟨_, rfl⟩
      rw [← hsb] at hcv1 hcv2
      clear hsb
      go_wp2_with fail
      go_at_call 15
      refine (size_any _ h2 x _ w7 HW7.out HT7.out).mono ?_
      rintro e w8 ⟨rfl, hb8⟩
      have hz : sizeB x = L := by unfold sizeB; rw [HDB.out]; exact HL.out.symm
      rw [hz]
      have HBW8 : Hid (Below w.heap.size w w8) := HBW7.out.trans (hb8.mono HBW7.out.size)
      clear hb8 hz
      go_wp2_with fail
      go_ret
      exact ⟨rfl, HBW8.out⟩
    · have hni : ((n : Int) != 0) = true := by rw [bne_iff_ne]; omega
      have hnj : ¬ (n : Int) = 0 := by omega
      go_wp2_with fail
      go_ret
      exact ⟨rfl, HBW6.out⟩
end Go.Proofs.YtpiookgkkaafeaaDoor
end
