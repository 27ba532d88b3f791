/- THE WALKS OF seal.Close AND seal.Open. -/
import Derived.Test.YtbkiahnljklhpaaDoorSealLeaf
import Derived.Deep.QuietTactic
import Derived.BigQuiet
import Derived.StillTailTactics
namespace Go.Proofs.YtbkiahnljklhpaaDoor
open Go.RowKit
open Seal
theorem u8s_splice (L cs : List Nat) (off : Nat) : splice (u8s L) off (u8s cs) = u8s (splice L off cs) := by
  simp [splice, u8s, List.map_take, List.map_drop]
theorem length_u8s (l : List Nat) : (u8s l).length = l.length := by simp [u8s]
theorem one_u8s (l : List Nat) : ∀ v ∈ u8s l, v.oneCell' = true := by
  intro v hv
  obtain ⟨n, _, rfl⟩ := List.mem_map.1 hv
  rfl
theorem SliceIs.src {w : World} {a : Option Addr} {l : List Nat} (h : SliceIs w a l) (h0 : 0 < l.length) : ∃ ad, a = some ad ∧ ∀ (j : Nat) v, (u8s l)[j]? = some v → w.cell? (ad.add j) = some v := by
  rcases h with rfl | ⟨b, off, rfl, h⟩
  · simp at h0
  · refine ⟨_, rfl, fun j v hv => ?_⟩
    have hj : j < l.length := by
      rw [← length_u8s]; exact (List.getElem?_eq_some_iff.1 hv).1
    have := h j hj
    simp only [u8s, List.getElem?_map, List.getElem?_eq_getElem hj, Option.map_some, Option.some.injEq] at hv
    subst hv
    rw [show (⟨b, off, none⟩ : Addr).add j = ⟨b, off + j, none⟩ by (unfold Addr.add; split <;> simp_all), this]
    simp [u8, List.getD_eq_getElem?_getD, List.getElem?_eq_getElem hj]
/-- The page that Close lays, laid piece by piece. -/
theorem lay_body (page next : Nat) (data : List Nat) (hd : data.length + 10 ≤ page) :
    (splice (splice (splice (List.replicate page 0) 0 (le next 4)) 4 (le data.length 2)) 6 data).take (page - 4) = body page next data := by
  have e1 : splice (List.replicate page 0) 0 (le next 4) = le next 4 ++ List.replicate (page - 4) 0 := by
    simp [splice, length_le]
  have e2 : splice (le next 4 ++ List.replicate (page - 4) 0) 4 (le data.length 2) = le next 4 ++ (le data.length 2 ++ List.replicate (page - 6) 0) := by
    unfold splice
    rw [List.take_left' (length_le _ _), List.drop_append, length_le, length_le, List.drop_eq_nil_of_le (by rw [length_le]; omega)]
    simp; omega
  have e3 : splice (le next 4 ++ (le data.length 2 ++ List.replicate (page - 6) 0)) 6 data = le next 4 ++ (le data.length 2 ++ (data ++ List.replicate (page - 6 - data.length) 0)) := by
    rw [← List.append_assoc]
    unfold splice
    have hl : (le next 4 ++ le data.length 2).length = 6 := by simp [length_le]
    rw [List.take_left' hl, List.drop_append, hl, List.drop_eq_nil_of_le (by omega)]
    simp [List.append_assoc]
  rw [e1, e2, e3]
  unfold body
  rw [List.take_append, length_le, List.take_of_length_le (by rw [length_le]; omega), List.take_append, length_le, List.take_of_length_le (by rw [length_le]; omega), List.take_append, List.take_of_length_le (by omega), List.take_replicate]
  congr 4
  omega
theorem lay_end (page : Nat) (L s : List Nat) (n : Nat) (hl : L.length = page) (hn : n = 4) (hs : s.length = n) (h4 : 4 ≤ page) : splice L (page - 4) s = L.take (page - 4) ++ s := by
  subst hn
  unfold splice
  rw [hs, List.drop_eq_nil_of_le (by omega), List.append_nil]
theorem info5 : (Tryd.prog.info? 5).map (fun i => (i.zero, i.size, i.bytes)) = some (some (.int .u8 0), 1, 1) := by kernel_rfl
set_option maxRecDepth 100000 in
set_option maxHeartbeats 400000 in
theorem close_ok (page next : Nat) (a : Option Addr) (cap : Nat) (data : List Nat) (w : World) (hp : pageOk page = true) (hn : next ≤ 16384) (hd : data.length + 10 ≤ page) (hb : Oct data) (hc : SliceIs w a data)
    (ht : Tab w) (h0 : 1 < w.heap.size) :
    Calls Tryd.prog 58 #[.int .i64 page, .int .i64 ((next : Int) - 1), .slice a data.length cap] w fun e w' =>
      e = .returned (.tuple #[.slice (some ⟨w.heap.size, 0, none⟩) page page, .int .i64 0]) ∧ Row w' w.heap.size (closeB page next data) ∧ Below w.heap.size w w' := by
  have hpb := pageOk_bounds hp
  obtain ⟨i0, hi, hz0, hz1, hz2⟩ := info_parts info5
  have hmk : ∀ u : World, (Instr.makeSlice 29 (.int .i64 (page : Int)) (.int .i64 (page : Int))).run Tryd.prog u =
      .ok (.slice (some ⟨u.heap.size, 0, none⟩) page page) (u.alloc (.cells (madeCells #[.int .u8 0] page) 5)) := fun u => by
    have h := run_make (P := Tryd.prog) u 29 5 i0 (.int .u8 0) Tryd.underlying29 hi hz0 .i64 .i64 (page : Int) (page : Int) (by omega) (Int.le_refl _) (by rw [hz2]; omega) (by omega)
    rw [Int.toNat_natCast] at h
    simpa [hz1, Value.cells] using h
  have hroom : roomOf page = page - 10 := by
    unfold roomOf; rw [if_pos]; unfold pageB; rwa [Int.toNat_natCast]
  have Hroom := Lib.hid hroom
  clear hroom
  have hg1 : ((page : Int) - 10 == 0) = false := by rw [beq_eq_false_iff_ne]; omega
  go_enter Tryd.func58, Tryd.ntmps58
  go_wp2_with fail
  refine (room_any page _ (by omega) (by omega)).mono ?_
  rintro e w' ⟨rfl, rfl⟩
  rw [Hroom.out]
  go_wp2_with fail
  have hm0 : next % 4294967296 = next := Nat.mod_eq_of_lt (by omega)
  refine (put_any w.heap.size 0 4 _ next _ _ (by omega) (Row.made page) (by simp; omega)).mono ?_
  rintro e w1 ⟨rfl, hR1, hG1⟩
  go_wp2_with fail
  refine (put_any w.heap.size 4 2 _ data.length _ _ (by omega) hR1 (by rw [length_splice _ _ _ (by simp [length_le]; omega)]; simp; omega)).mono ?_
  rintro e w2 ⟨rfl, hR2, hG2⟩
  have hB2 : Below w.heap.size w w2 := (((Below.refl _ _).alloc (Nat.le_refl _) _).grown hG1 (by simp) (fun k hk => by simp at hk; omega)).grown hG2 (by have := hG1.size; simp at this; omega) (fun k hk => by simp at hk; omega)
  have hL2 : (splice (splice (List.replicate page 0) 0 (le next 4)) 4 (le data.length 2)).length = page := by
    rw [length_splice _ _ _ (by rw [length_splice _ _ _ (by simp [length_le]; omega)]; simp [length_le]; omega), length_splice _ _ _ (by simp [length_le]; omega)]; simp
  have hc2 : SliceIs w2 a data := hc.keep hB2
  have ht2 : Tab w2 := ht.below hB2 h0
  have hlay := lay_body page next data hd
  have Hlay := Lib.hid hlay
  clear hlay hR1 hG1 hG2
  obtain ⟨L2, hLe⟩ : ∃ L2, L2 = splice (splice (List.replicate page 0) 0 (le next 4)) 4 (le data.length 2) := ⟨_, rfl⟩
  rw [← hLe] at hR2 hL2
  have HLe := Lib.hid hLe
  have HL2 := Lib.hid hL2
  clear hLe hL2
  have HR2 : Hid (w2.heap[w.heap.size]? = some (.cells (u8s L2).toArray 5 (0, 0))) := hR2
  have hsz : (Tryd.prog.info? 5).map (·.size) = some 1 := by rw [hi]; simp [hz1]
  have Hsz := Lib.hid hsz
  clear hsz
  have hR2' := hR2
  clear hR2
  go_wp2_with (with_reducible refine wpList_copy_splice rfl (.tmp 44) (.tmp 45) 29 29 rfl 5 Tryd.underlying29 Hsz.out _ _ _ _ _ _ rfl rfl w.heap.size 6 (u8s L2) 5 HR2.out (u8s data) ?c2 ?c3 ?c4 (one_u8s data) w.heap.size w hB2 (Nat.le_refl _) ?_)
  case c2 => rw [length_u8s]; show data.length = min data.length (page - 6); omega
  case c3 => intro hpos; rw [length_u8s] at hpos; obtain ⟨ad, s1, s2⟩ := hc2.src hpos; first | exact ⟨rfl, ad, s1, s2⟩ | exact ⟨ad, s1, s2⟩
  case c4 => rw [length_u8s, length_u8s, HL2.out]; omega
  intro w3 hR3 hB3
  have hR3' : Row w3 w.heap.size (splice L2 6 data) := by have := hR3.out; rw [u8s_splice] at this; exact this
  clear hR3 HR2 hR2'
  have ht3 : Tab w3 := ht.below hB3 h0
  have hL3 : (splice L2 6 data).length = page := by rw [length_splice _ _ _ (by rw [HL2.out]; omega)]; exact HL2.out
  have hbody : (splice L2 6 data).take (page - 4) = body page next data := by rw [HLe.out]; exact Hlay.out
  have hlb := length_body page next data hd
  have hbb := oct_body page next data hb
  have hrd : Reads w3 w.heap.size 0 (body page next data) := by
    have := hR3'.reads 0 (page - 4) (by omega)
    rw [List.drop_zero, hbody] at this
    exact this
  have Hbody := Lib.hid hbody
  have HL3 := Lib.hid hL3
  have Hlb := Lib.hid hlb
  clear hbody hL3 hlb
  obtain ⟨L3, hLe3⟩ : ∃ L3, L3 = splice L2 6 data := ⟨_, rfl⟩
  rw [← hLe3] at hR3' Hbody HL3
  clear hLe3
  go_wp2_with fail
  have q1 : (4 : Int) ≤ (page : Int) := by omega
  have q2 : (page : Int) - 4 ≤ (page : Int) := by omega
  have q2' : (0 : Int) ≤ (page : Int) - 4 := by omega
  have q3 : ((page : Int) - 4).toNat = page - 4 := by omega
  have q4 : (page = page - 4) = False := by apply eq_false; omega
  refine wp_region_still_tail 7 (by kernel_rfl) (by kernel_rfl) ?_
  simp only [List.take_succ_cons, List.take_zero, List.drop_succ_cons, List.drop_zero]
  iterate 6 still_step
  refine wpStill_step (fun K hK => ?_)
  go_simp
  refine ⟨_, (sum_any _ _ _ (body page next data) _ Hlb.out (by omega) hbb (.inr ⟨w.heap.size, 0, rfl, by exact hrd⟩) (by exact ht3)).mono fun _ _ h => ⟨h.1, h.2.symm⟩, hK _ ?_⟩
  clear hK K
  refine wpStill_nil ?_
  clear q1 q2 q2' q3 q4
  change wpList _ _ _ _ _ w3.drew
  go_wp2_with fail
  refine (put_any w.heap.size (page - 4) _ _ (crc (body page next data)) L3 _ (by omega) (by exact hR3') (by have := HL3.out; omega)).mono ?_
  rintro e w4 ⟨rfl, hR4, hG4⟩
  have hB4 : Below w.heap.size w w4 := hB3.drew.grown hG4 (by have := hB3.size; simpa using this) (fun k hk => by simp at hk; omega)
  have hpage : splice L3 (page - 4) (le (crc (body page next data)) (page - (page - 4))) = closeB page next data := by
    rw [lay_end page L3 _ _ HL3.out (show page - (page - 4) = 4 by omega) (length_le _ _) (by omega), Hbody.out, show page - (page - 4) = 4 by omega]; rfl
  rw [hpage] at hR4
  clear hG4 hpage
  go_wp2_with fail
  go_ret2
  exact ⟨rfl, hR4, hB4⟩
end Go.Proofs.YtbkiahnljklhpaaDoor
