/- BsonPutAll, BsonEncode. -/
import Derived.Laws.MakeOwn
import Derived.Test.YtpiookgkkaafeaaDoorMg29
set_option maxRecDepth 100000
section
namespace Go.Proofs.YtpiookgkkaafeaaDoor
open Go.RowKit
open Seal
open Bson (Val)
section
variable {w : World} {base : Nat} {b : Value} {bs : List Nat}
set_option maxRecDepth 100000 in
set_option maxHeartbeats 2000000 in
theorem putV_doc (x : Val) (ba fa la : Option Addr) (bc fc lc : Nat) (res : List Nat) (hkd : x.kind = 6) (hb : Own8 w base b bs) (C : ∀ W, PutRel base w W → Own8 W base b bs → Calls Tryd.prog 25 #[b, .slice fa x.f.length fc] W (PutPost W base res)) :
    Calls Tryd.prog 68 #[b, agg x ba fa la bc fc lc] w (PutPost w base res) := by
  unfold agg
  rw [hkd]
  have HB := Lib.hid (hb.below ((Below.refl _ w).alloc (Nat.le_refl _) (.cells #[.int .i64 6, .int .i64 x.n, .string x.s, .slice ba x.b.length bc, .slice fa x.f.length fc, .slice la x.l.length lc] 27)))
  have HR := Lib.hid (PutRel.new ((Below.refl _ w).alloc (Nat.le_refl _) (.cells #[.int .i64 6, .int .i64 x.n, .string x.s, .slice ba x.b.length bc, .slice fa x.f.length fc, .slice la x.l.length lc] 27)) hb.sz)
  have CD := Lib.hid (C _ HR.out HB.out)
  clear hkd hb C
  go_enter Tryd.func68, Tryd.ntmps68
  go_wp2_with fail
  refine CD.out.mono ?_
  rintro e w2 ⟨v2, rfl, hO2, hR2⟩
  have HO2 := Lib.hid hO2
  have HR2 := Lib.hid (HR.out.trans hR2)
  clear hO2 hR2
  go_wp2_with fail
  go_ret
  exact ⟨v2, rfl, HO2.out, HR2.out⟩
set_option maxRecDepth 100000 in
set_option maxHeartbeats 2000000 in
theorem putV_list (x : Val) (ba fa la : Option Addr) (bc fc lc : Nat) (res : List Nat) (hkd : x.kind = 7) (hb : Own8 w base b bs) (C : ∀ W, PutRel base w W → Own8 W base b bs → Calls Tryd.prog 79 #[b, .slice la x.l.length lc] W (PutPost W base res)) :
    Calls Tryd.prog 68 #[b, agg x ba fa la bc fc lc] w (PutPost w base res) := by
  unfold agg
  rw [hkd]
  have HB := Lib.hid (hb.below ((Below.refl _ w).alloc (Nat.le_refl _) (.cells #[.int .i64 7, .int .i64 x.n, .string x.s, .slice ba x.b.length bc, .slice fa x.f.length fc, .slice la x.l.length lc] 27)))
  have HR := Lib.hid (PutRel.new ((Below.refl _ w).alloc (Nat.le_refl _) (.cells #[.int .i64 7, .int .i64 x.n, .string x.s, .slice ba x.b.length bc, .slice fa x.f.length fc, .slice la x.l.length lc] 27)) hb.sz)
  have CD := Lib.hid (C _ HR.out HB.out)
  clear hkd hb C
  go_enter Tryd.func68, Tryd.ntmps68
  go_wp2_with fail
  refine CD.out.mono ?_
  rintro e w2 ⟨v2, rfl, hO2, hR2⟩
  have HO2 := Lib.hid hO2
  have HR2 := Lib.hid (HR.out.trans hR2)
  clear hO2 hR2
  go_wp2_with fail
  go_ret
  exact ⟨v2, rfl, HO2.out, HR2.out⟩
end
theorem putVal_all : ∀ d, PutVal d := by
  have sc : ∀ (Q : Nat → Prop) (h : Nat) (x : Val) (v : Value) (w : World) (base : Nat) (b : Value) (bs xs : List Nat), VIn w Q h x v → (∀ g, Q g → g < base) → Own8 w base b bs → Bson.scalar x = some xs → bs.length + xs.length ≤ 900000 → Calls Tryd.prog 68 #[b, v] w (PutPost w base (bs ++ xs)) := by
    intro Q h x v w base b bs xs hv hQ hb he hl
    cases h with
    | zero => exact hv.elim
    | succ h =>
    obtain ⟨ba, fa, la, bc, fc, lc, rfl, -⟩ := id hv
    obtain ⟨-, -, -, -, hB, -, -⟩ := VIn.parts hv
    rcases Bson.scalar_parts he with ⟨hk, rfl⟩ | ⟨hk, rfl⟩ | ⟨hk, rfl⟩ | ⟨hk, rfl⟩ | ⟨hk, rfl⟩ | ⟨hk, rfl⟩ | ⟨hk, rfl⟩
    · rw [List.append_nil]
      exact putV_none x ba fa la bc fc lc x.kind rfl hk hb
    · exact putV_num x ba fa la bc fc lc 3 4 hk (.inl ⟨rfl, rfl⟩) hb (by omega)
    · rcases hk with hk | hk
      · exact putV_num x ba fa la bc fc lc 4 8 hk (.inr (.inl ⟨rfl, rfl⟩)) hb (by omega)
      · exact putV_num x ba fa la bc fc lc 11 8 hk (.inr (.inr (.inl ⟨rfl, rfl⟩))) hb (by omega)
    · exact putV_num x ba fa la bc fc lc 10 1 hk (.inr (.inr (.inr ⟨rfl, rfl⟩))) hb (by omega)
    · exact putV_text x ba fa la bc fc lc hk hb (by simp [Bson.leI_length, Bson.bytes_length] at hl; omega)
    · exact putV_bytes Q x ba fa la bc fc lc hk hB hQ hb (by simp [Bson.leI_length] at hl; omega)
    · exact putV_id Q x ba fa la bc fc lc hk hB hQ hb hl
  intro d
  induction d with
  | zero => exact fun Q h x v w base b bs xs hv hQ hb he hl _ => sc Q h x v w base b bs xs hv hQ hb he hl
  | succ d IH =>
    intro Q h x v w base b bs xs hv hQ hb he hl hT
    by_cases h6 : x.kind = 6
    · cases h with
      | zero => exact hv.elim
      | succ h =>
      obtain ⟨ba, fa, la, bc, fc, lc, rfl, -⟩ := id hv
      obtain ⟨hL, -, -, -, -, hF, -⟩ := VIn.parts hv
      rw [Bson.enc_doc d x h6] at he
      split at he
      · cases hr : Bson.row (Bson.enc d) x.f with
        | none => rw [hr] at he; cases he
        | some r =>
          rw [hr] at he
          obtain rfl : Bson.wrap r = xs := Option.some.inj he
          refine putV_doc x ba fa la bc fc lc _ h6 hb (fun W hR hO => putDoc_any d IH Q h fa x.f.length fc x.f W base b bs r rfl hL.f (hF.kept (fun g hg _ => hR.below.block g (hQ g hg)) (fun _ z => z) (fun _ _ z => VIn.based z hQ hR.below)) hQ hO hr ?_ (fun W' hb' => hT W' (hR.below.trans hb')))
          simp [Bson.wrap, Bson.leI_length] at hl; omega
      · cases he
    · by_cases h7 : x.kind = 7
      · cases h with
        | zero => exact hv.elim
        | succ h =>
        obtain ⟨ba, fa, la, bc, fc, lc, rfl, -⟩ := id hv
        obtain ⟨hL, -, -, -, -, -, hI⟩ := VIn.parts hv
        rw [Bson.enc_list d x h7] at he
        split at he
        · cases hr : Bson.row (Bson.enc d) (Bson.named x.l) with
          | none => rw [hr] at he; cases he
          | some r =>
            rw [hr] at he
            obtain rfl : Bson.wrap r = xs := Option.some.inj he
            refine putV_list x ba fa la bc fc lc _ h7 hb (fun W hR hO => putList_any d IH Q h la x.l.length lc x.l W base b bs r rfl hL.l (hI.kept (fun g hg _ => hR.below.block g (hQ g hg)) (fun _ z => z) (fun _ _ z => VIn.based z hQ hR.below)) hQ hO hr ?_ (fun W' hb' => hT W' (hR.below.trans hb')))
            simp [Bson.wrap, Bson.leI_length] at hl; omega
        · cases he
      · rw [Bson.enc_other _ x h6 h7] at he
        exact sc Q h x v w base b bs xs hv hQ hb he hl
end Go.Proofs.YtpiookgkkaafeaaDoor
end
section
namespace Go.Proofs.YtpiookgkkaafeaaDoor
open Go.RowKit
open Seal
open Bson (Val)
def EInv (w : World) (n : Nat) (fv : Value) (cs : Array Value) (l : List Nat) (D : Nat → Bool) (V : Nat → Value) (W : World) : Prop :=
  Below w.heap.size w W ∧ W.heap[w.heap.size]? = some (.cells cs 27 (0, 0)) ∧ (D 0 = true → V 0 = .int .i64 n) ∧ (D 1 = true → D 4 = false → Own8 W w.heap.size (V 1) []) ∧ (D 2 = true → V 2 = .pointer (some ⟨w.heap.size, 4, none⟩)) ∧ (D 3 = true → V 3 = fv) ∧ (D 4 = true → Own8 W w.heap.size (V 4) l) ∧
    (D 5 = true → V 5 = V 4) ∧ (D 6 = true → V 6 = .int .i64 0) ∧ (D 4 = true → D 1 = true) ∧ (D 5 = true → D 4 = true)
theorem sizeB_some {x : Val} {l : List Nat} (h : docB x = some l) : sizeB x = l.length := by unfold sizeB; rw [h]
theorem sizeB_none {x : Val} (h : docB x = none) : sizeB x = 0 := by unfold sizeB; rw [h]
theorem docB_parts {x : Val} {l : List Nat} (h : docB x = some l) : x.kind = 6 ∧ Bson.enc 32 x = some l ∧ l.length ≤ 65536 ∧ ∃ r, Bson.row (Bson.enc 31) x.f = some r ∧ l = Bson.wrap r := by
  unfold docB at h
  split at h
  · rename_i h6
    cases he : Bson.enc 32 x with
    | none => rw [he] at h; cases h
    | some l2 =>
      rw [he] at h
      by_cases hl : l2.length ≤ 65536
      · have h2 : (if l2.length ≤ 65536 then some l2 else none) = some l := h
        rw [if_pos hl] at h2
        obtain rfl := Option.some.inj h2
        refine ⟨h6, rfl, hl, ?_⟩
        have he2 := he
        rw [Bson.enc_doc 31 x h6] at he2
        split at he2
        · cases hr : Bson.row (Bson.enc 31) x.f with
          | none => rw [hr] at he2; cases he2
          | some r => rw [hr] at he2; exact ⟨r, rfl, (Option.some.inj he2).symm⟩
        · cases he2
      · have h2 : (if l2.length ≤ 65536 then some l2 else none) = some l := h
        rw [if_neg hl] at h2; cases h2
  · cases h
theorem may_some {x : Val} : (0 < sizeB x) ↔ (docB x).isSome = true := by
  cases h : docB x with
  | none => rw [sizeB_none h]; simp
  | some l =>
    rw [sizeB_some h]
    obtain ⟨_, _, _, r, _, rfl⟩ := docB_parts h
    have : (Bson.wrap r).length = 4 + (r.length + 1) := by simp [Bson.wrap, Bson.leI_length]
    rw [this]
    exact ⟨fun _ => rfl, fun _ => by omega⟩
set_option maxRecDepth 100000 in
set_option maxHeartbeats 2000000 in
theorem encode_ok (Q : Nat → Prop) (h : Nat) (x : Val) (v : Value) (w : World) (l : List Nat) (hv : VIn w Q h x v) (hQ : ∀ g, Q g → g < w.heap.size) (hT : Tabs w) (hl : docB x = some l) :
    Calls Tryd.prog 14 #[v] w fun e w' => ∃ v', e = .returned (.tuple #[v', .int .i64 0]) ∧ Own8 w' w.heap.size v' l ∧ Below w.heap.size w w' := by
  cases h with
  | zero => exact hv.elim
  | succ h =>
  obtain ⟨i0, hi, hz0, hz1, hz2⟩ := info_parts infoU8
  obtain ⟨ba, fa, la, bc, fc, lc, rfl, -⟩ := id hv
  obtain ⟨hL, -, -, -, -, hF, -⟩ := VIn.parts hv
  obtain ⟨h6, -, hlen, r, hr, hw⟩ := docB_parts hl
  have CS : Hid (∀ W, Below w.heap.size w W → Calls Tryd.prog 15 #[agg x ba fa la bc fc lc] W fun e w' => e = .returned (.int .i64 (l.length : Int)) ∧ Below W.heap.size W w') := fun W hb => by
    have h1 := size_any Q (h + 1) x _ W (VIn.keep hb hv) (hT.below hb)
    rw [sizeB_some hl] at h1
    exact h1
  have CD : Hid (∀ W vv, Below w.heap.size w W → Own8 W w.heap.size vv [] → Calls Tryd.prog 25 #[vv, .slice fa x.f.length fc] W (PutPost W w.heap.size l)) := fun W vv hb hO => by
    have h1 := putDoc_any 31 (putVal_all 31) Q h fa x.f.length fc x.f W w.heap.size vv [] r rfl hL.f (hF.kept (Kept.of_below hb) (fun _ z => z) (fun _ _ z => VIn.keep hb z)) hQ hO hr (by rw [hw] at hlen; simp [Bson.wrap, Bson.leI_length] at hlen; simp; omega) (fun W' hb' => (hT.below (hb.trans hb')).p10)
    rw [List.nil_append, ← hw] at h1
    exact h1
  obtain ⟨n, hn⟩ : ∃ n, n = l.length := ⟨_, rfl⟩
  have hn0 : 0 < n := by
    have : (Bson.wrap r).length = 4 + (r.length + 1) := by simp [Bson.wrap, Bson.leI_length]
    rw [hn, hw, this]; omega
  rw [← hn] at CS hlen
  unfold agg at CS ⊢
  rw [h6] at CS ⊢
  have HL := Lib.hid hn
  clear hv hQ hT hl hL hF hr hw hn h6
  have HX : Hid ((w.alloc (.cells #[.int .i64 6, .int .i64 x.n, .string x.s, .slice ba x.b.length bc, .slice fa x.f.length fc, .slice la x.l.length lc] 27)).heap[w.heap.size]? = some (.cells #[.int .i64 6, .int .i64 x.n, .string x.s, .slice ba x.b.length bc, .slice fa x.f.length fc, .slice la x.l.length lc] 27 (0, 0))) := heap_alloc_new w _
  have HB : Hid (Below w.heap.size w (w.alloc (.cells #[.int .i64 6, .int .i64 x.n, .string x.s, .slice ba x.b.length bc, .slice fa x.f.length fc, .slice la x.l.length lc] 27))) := (Below.refl _ w).alloc (Nat.le_refl _) _
  have CS1 := Lib.hid (CS.out _ HB.out)
  have hnz : ((n : Int) == 0) = false := by rw [beq_eq_false_iff_ne]; omega
  have hnz2 : ¬ (n : Int) = 0 := by omega
  go_enter Tryd.func14, Tryd.ntmps14
  go_wp2_with fail
  refine CS1.out.mono ?_
  rintro e w2 ⟨rfl, hb2⟩
  have HX2 := Lib.hid ((hb2.block _ (Array.getElem?_eq_some_iff.1 HX.out).1).trans HX.out)
  have HB2 := Lib.hid (HB.out.trans (hb2.mono HB.out.size))
  clear hb2
  go_upto_region 4 with fail
  refine wp_region_inv (fun V => { tmps := #[Value.agg #[.int .i64 6, .int .i64 x.n, .string x.s, .slice ba x.b.length bc, .slice fa x.f.length fc, .slice la x.l.length lc], .pointer (some ⟨w.heap.size, 0, none⟩), V 5, V 6, .int .i64 n, .agg #[.int .i64 6, .int .i64 x.n, .string x.s, .slice ba x.b.length bc, .slice fa x.f.length fc, .slice la x.l.length lc], .int .i64 n, .int .i64 n, .bool false, V 0, V 1, V 2, V 3, V 4], defers := [] }) (EInv w n (.slice fa x.f.length fc) #[.int .i64 6, .int .i64 x.n, .string x.s, .slice ba x.b.length bc, .slice fa x.f.length fc, .slice la x.l.length lc] l) (by kernel_rfl) (by kernel_rfl) (by kernel_rfl) (fun V => by kernel_rfl) ?_ (fun V => ⟨⟨HB2.out.os, HB2.out.tape, HB2.out.output, HB2.out.size, HB2.out.block⟩, HX2.out, nofun, nofun, nofun, nofun, nofun, nofun, nofun, nofun, nofun⟩) ?_
  · refine ⟨?_, ?_⟩
    · refine inv_free rfl (fun D V w5 hDi hpre hI K hK => ?_)
      have hpre := hpre.out
      obtain ⟨p, bx, h0, h1, h2, h3, h4, h5, h6, h41, h54⟩ := hI
      go_simp
      exact put_is (by kernel_rfl) (hK.out (.int .i64 n) w5 ⟨p, bx, fun _ => rfl, h1, h2, h3, h4, h5, h6, h41, h54⟩)
    refine ⟨?_, ?_⟩
    · refine inv_free rfl (fun D V w5 hDi hpre hI K hK => ?_)
      have hpre := hpre.out
      obtain ⟨p, bx, h0, h1, h2, h3, h4, h5, h6, h41, h54⟩ := hI
      have e0 := h0 (hpre 0 (by kernel_rfl))
      obtain ⟨w6, hr, ho, hg⟩ := run_make_own (P := Tryd.prog) (w := w5) w.heap.size 22 5 i0 (.int .u8 0) 1 Tryd.underlying22 hi hz0 hz1 .i64 .i64 n (by rw [hz2]; omega) (by unfold maxLen; omega) p.size
      have hb6 : Below w5.heap.size w5 w6 := ⟨hg.os, hg.tape, hg.output, hg.size, fun j hj => hg.block j hj nofun⟩
      go_simp
      exact put_is (by rw [e0]; kernel_rfl) (hK.out (.slice (some ⟨w5.heap.size, 0, none⟩) 0 n) w6 ⟨p.trans (hb6.mono p.size), (hb6.block _ (Array.getElem?_eq_some_iff.1 bx).1).trans bx, h0, fun _ _ => ⟨ho, Nat.le_trans p.size hb6.size⟩, h2, h3, fun e => absurd (h41 e) (by rw [hDi]; decide), h5, h6, fun _ => rfl, h54⟩)
    refine ⟨?_, ?_⟩
    · refine inv_free rfl (fun D V w5 hDi hpre hI K hK => ?_)
      have hpre := hpre.out
      obtain ⟨p, bx, h0, h1, h2, h3, h4, h5, h6, h41, h54⟩ := hI
      go_simp
      exact put_is (by kernel_rfl) (hK.out (.pointer (some ⟨w.heap.size, 4, none⟩)) w5 ⟨p, bx, h0, h1, fun _ => rfl, h3, h4, h5, h6, h41, h54⟩)
    refine ⟨?_, ?_⟩
    · refine inv_free rfl (fun D V w5 hDi hpre hI K hK => ?_)
      have hpre := hpre.out
      obtain ⟨p, bx, h0, h1, h2, h3, h4, h5, h6, h41, h54⟩ := hI
      have c4 := cell_of_row _ _ 4 _ _ _ bx
      have e2 := h2 (hpre 2 (by kernel_rfl))
      go_simp
      exact put_is (by rw [e2]; kernel_rfl) (hK.out (.slice fa x.f.length fc) w5 ⟨p, bx, h0, h1, h2, fun _ => rfl, h4, h5, h6, h41, h54⟩)
    refine ⟨?_, ?_⟩
    · refine inv_free rfl (fun D V w5 hDi hpre hI K hK => ?_)
      have hpre := hpre.out
      obtain ⟨p, bx, h0, h1, h2, h3, h4, h5, h6, h41, h54⟩ := hI
      have e1 := h1 (hpre 1 (by kernel_rfl))
      have e3 := h3 (hpre 3 (by kernel_rfl))
      go_simp
      go_at_call 25
      refine (CD.out w5 _ p (e1 hDi)).mono ?_
      rintro e w6 ⟨v6, rfl, hO6, hR6⟩
      exact put_is (by rw [e3]; kernel_rfl) (hK.out v6 w6 ⟨p.trans hR6.below, hR6.keep _ _ _ _ (by decide) bx, h0, fun _ e => absurd (show true = false from e) (by decide), h2, h3, fun _ => hO6, fun e => absurd (h54 e) (by rw [hDi]; decide), h6, fun _ => hpre 1 (by kernel_rfl), fun _ => rfl⟩)
    refine ⟨?_, ?_⟩
    · refine inv_free rfl (fun D V w5 hDi hpre hI K hK => ?_)
      have hpre := hpre.out
      obtain ⟨p, bx, h0, h1, h2, h3, h4, h5, h6, h41, h54⟩ := hI
      go_simp
      exact put_is (by kernel_rfl) (hK.out (V 4) w5 ⟨p, bx, h0, h1, h2, h3, h4, fun _ => rfl, h6, h41, fun _ => hpre 4 (by kernel_rfl)⟩)
    refine ⟨?_, ?_⟩
    · refine inv_free rfl (fun D V w5 hDi hpre hI K hK => ?_)
      have hpre := hpre.out
      obtain ⟨p, bx, h0, h1, h2, h3, h4, h5, h6, h41, h54⟩ := hI
      go_simp
      exact put_is (by kernel_rfl) (hK.out (.int .i64 0) w5 ⟨p, bx, h0, h1, h2, h3, h4, h5, fun _ => rfl, h41, h54⟩)
    trivial
  intro D V w4 hD hI
  obtain ⟨p, -, -, -, -, -, h4, h5, h6, -, -⟩ := hI
  have e5 := h5 (hD 5 (by decide))
  have e6 := h6 (hD 6 (by decide))
  have HO := Lib.hid (h4 (hD 4 (by decide)))
  have HP := Lib.hid p
  rw [e5, e6]
  clear h4 h5 h6 hD p e5 e6
  go_wp2_with fail
  go_ret2
  exact ⟨_, rfl, HO.out, HP.out⟩
set_option maxRecDepth 100000 in
set_option maxHeartbeats 2000000 in
theorem encode_no (Q : Nat → Prop) (h : Nat) (x : Val) (v : Value) (w : World) (hv : VIn w Q h x v) (hT : Tabs w) (hl : docB x = none) :
    Calls Tryd.prog 14 #[v] w fun e w' => e = .returned (.tuple #[.slice none 0 0, .int .i64 1]) ∧ Below w.heap.size w w' := by
  have hv' := hv
  cases h with
  | zero => exact hv.elim
  | succ h =>
  obtain ⟨ba, fa, la, bc, fc, lc, rfl, -⟩ := hv'
  have CS := Lib.hid (fun W (hb : Below w.heap.size w W) => size_any Q (h + 1) x _ W (VIn.keep hb hv) (hT.below hb))
  rw [sizeB_none hl] at CS
  unfold agg at CS ⊢
  have HB := Lib.hid ((Below.refl w.heap.size w).alloc (Nat.le_refl _) (.cells #[.int .i64 x.kind, .int .i64 x.n, .string x.s, .slice ba x.b.length bc, .slice fa x.f.length fc, .slice la x.l.length lc] 27))
  have CS1 := Lib.hid (CS.out _ HB.out)
  clear hv hT hl
  go_enter Tryd.func14, Tryd.ntmps14
  go_wp2_with fail
  refine CS1.out.mono ?_
  rintro e w2 ⟨rfl, hb2⟩
  have HB2 := Lib.hid (HB.out.trans (hb2.mono HB.out.size))
  clear hb2
  go_wp2_with fail
  go_ret2
  exact ⟨rfl, HB2.out⟩
set_option maxRecDepth 100000 in
theorem may_any (Q : Nat → Prop) (h : Nat) (x : Val) (v : Value) (w : World) (hv : VIn w Q h x v) (hT : Tabs w) :
    Calls Tryd.prog 18 #[v] w fun e w' => e = .returned (.bool (docB x).isSome) ∧ Below w.heap.size w w' := by
  have hv' := hv
  cases h with
  | zero => exact hv.elim
  | succ h =>
  obtain ⟨ba, fa, la, bc, fc, lc, rfl, -⟩ := hv'
  have CS := fun W (hb : Below w.heap.size w W) => size_any Q (h + 1) x _ W (VIn.keep hb hv) (hT.below hb)
  have hs : decide (0 < sizeB x) = (docB x).isSome := by
    rw [Bool.eq_iff_iff, decide_eq_true_eq]
    constructor
    · intro h1; exact may_some.1 h1
    · intro h1; exact may_some.2 h1
  generalize sizeB x = sz at CS hs
  have HS := Lib.hid hs
  unfold agg at CS ⊢
  have HB := Lib.hid ((Below.refl w.heap.size w).alloc (Nat.le_refl _) (.cells #[.int .i64 x.kind, .int .i64 x.n, .string x.s, .slice ba x.b.length bc, .slice fa x.f.length fc, .slice la x.l.length lc] 27))
  have CS1 := Lib.hid (CS _ HB.out)
  clear hv hT hs CS
  go_enter Tryd.func18, Tryd.ntmps18
  go_wp2_with fail
  refine CS1.out.mono ?_
  rintro e w2 ⟨rfl, hb2⟩
  have HB2 := Lib.hid (HB.out.trans (hb2.mono HB.out.size))
  clear hb2
  go_wp2_with fail
  go_ret
  exact ⟨ret_eq (by rw [← HS.out]; rfl), HB2.out⟩
end Go.Proofs.YtpiookgkkaafeaaDoor
end
