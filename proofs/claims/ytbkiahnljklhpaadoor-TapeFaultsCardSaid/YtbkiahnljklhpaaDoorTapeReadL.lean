/- THE WALK OF Read: a tape's records as they come, or the error. -/
import Derived.Test.YtbkiahnljklhpaaDoorTapeFew
import Derived.Test.YtbkiahnljklhpaaDoorTapeOpen
namespace Go.Proofs.YtbkiahnljklhpaaDoor
open Go.RowKit
open Seal
theorem infoRows : (Tryd.prog.info? 29).map (fun i => (i.zero, i.size, i.bytes)) = some (some (.slice none 0 0), 1, 24) := by kernel_rfl
/-- What was read: so many slices, each in a block of its own. -/
structure OutRows (w : World) (B0 : Nat) (v : Value) (xs : List (List Nat)) (vs : List Value) : Prop where
  row : w.ownsRow B0 29 1 v xs.length vs
  each : ∀ i, i < xs.length → w.ownsRow B0 5 1 (vs.getD i undef) (xs.getD i []).length (u8s (xs.getD i []))
  apart : ∀ i b, i < xs.length → (vs.getD i undef).ownBlock = some b → v.ownBlock ≠ some b
  oct : ∀ i, i < xs.length → Oct (xs.getD i [])
theorem OutRows.keep {w w' : World} {B0 : Nat} {v : Value} {xs : List (List Nat)} {vs : List Value} (h : OutRows w B0 v xs vs) (k : ∀ b, B0 ≤ b → b < w.heap.size → (v.ownBlock = some b ∨ ∃ i, i < xs.length ∧ (vs.getD i undef).ownBlock = some b) → w'.heap[b]? = w.heap[b]?) : OutRows w' B0 v xs vs :=
  ⟨ownsRow_keep h.row fun b hb => k b (h.row.lt b hb).1 (h.row.lt b hb).2 (.inl hb), fun i hi => ownsRow_keep (h.each i hi) fun b hb => k b ((h.each i hi).lt b hb).1 ((h.each i hi).lt b hb).2 (.inr ⟨i, hi, hb⟩), h.apart, h.oct⟩
/-- What was read can be read as what came in. -/
theorem OutRows.rows {w : World} {B0 : Nat} {v : Value} {xs : List (List Nat)} {vs : List Value} (h : OutRows w B0 v xs vs) : ∃ a cap, v = .slice a xs.length cap ∧ xs.length ≤ cap ∧ cap ≤ 9223372036854775807 ∧ RowsIn w a xs (fun b => B0 ≤ b ∧ b < w.heap.size) := by
  obtain ⟨a, cap, hv, hnc, hcm, hvl, hrow⟩ := row_form (ownsRow_base (Nat.zero_le _) h.row)
  refine ⟨a, cap, hv, hnc, hcm, ?_⟩
  rcases Nat.eq_zero_or_pos xs.length with h0 | h0
  · exact .inl (List.eq_nil_of_length_eq_zero h0)
  · obtain ⟨b, rfl, hb, hc, _⟩ := hrow h0
    refine .inr ⟨b, 0, rfl, h.row.lt b hb, fun i hi => ?_⟩
    obtain ⟨ai, ci, e, h1, h2, h3⟩ := slice_of_row (ownsRow_base (Nat.zero_le _) (h.each i hi))
    refine ⟨ai, ci, ?_, h1, h2, h3, h.oct i hi, fun hne p hp => ?_⟩
    · rw [Nat.zero_add, hc i hi, e]
    · have := (h.each i hi).lt p.block (by rw [e, hp]; rfl)
      exact this
structure ReadLPost (B g gl : Nat) (s : Disk.St) (own : Nat → Nat) (L : Int × Int × Int) (P : List Nat) (rs : List (List Nat)) (w : World) (E k : Nat) (v : Value) (vs : List Value) (w' : World) (s' : Disk.St) : Prop where
  sys : Sys B w' g gl s' own (backL (tkB L.2.1 s.page) s.page (L.1, tkH L.2.1 s.page, tkM L.2.1 L.2.2 s.page))
  same : Disk.Same s s'
  pages : s'.pages = s.pages
  ops : s'.ops ≤ s.ops + (Tape.stream rs).length
  err : E = 0 ∨ E = 16 ∨ E = 18
  k_le : k ≤ rs.length
  all : E = 0 → k = rs.length
  out : OutRows w' w.heap.size v (rs.take k) vs
  move : Move B gl w w' own own (fun _ => False) (fun _ => False)
  ahead : ∃ j, j ≤ P.length ∧ (Tape.stream (rs.take k)).length ≤ j * (s.page - 10) ∧ ∀ i, i < j → Tape.Good s P (Tape.stream rs) i
  calm : Disk.Calm s → E ≠ 16
  good : Disk.Calm s → Tape.Whole s P (Tape.stream rs) → E = 0
def ReadLEnd (B g gl : Nat) (s : Disk.St) (own : Nat → Nat) (L : Int × Int × Int) (P : List Nat) (rs : List (List Nat)) (w : World) (e : Ending) (w' : World) : Prop :=
  ∃ (E k : Nat) (v : Value) (vs : List Value) (s' : Disk.St), e = .returned (.tuple #[v, .int .i64 (E : Int)]) ∧ ReadLPost B g gl s own L P rs w E k v vs w' s'
structure ReadLInv (B g gl gr gt : Nat) (s : Disk.St) (own : Nat → Nat) (L : Int × Int × Int) (P : List Nat) (rs : List (List Nat)) (pv0 : Value) (w : World) (k : Nat) (v : Value) (vs : List Value) (w' : World) (s' : Disk.St) (j : Nat) (pa da : Option Addr) : Prop where
  sys : Sys B w' g gl s' own (L.1, tkH L.2.1 s.page, tkM L.2.1 L.2.2 s.page)
  same : Disk.Same s s'
  pages : s'.pages = s.pages
  ops : s'.ops ≤ s.ops + (Tape.stream (rs.take k)).length
  rdr : Rdr B w' g gl gr s' own (tkB L.2.1 s.page) P (Tape.stream rs) (rs.drop k) j (Tape.stream (rs.take k)).length pa da
  move : Move B gl w w' own own (fun _ => False) (RFoot gr da)
  out : OutRows w' w.heap.size v (rs.take k) vs
  apart : ∀ b, (v.ownBlock = some b ∨ ∃ i, i < k ∧ (vs.getD i undef).ownBlock = some b) → ¬ RFoot gr da b
  old : w.heap.size ≤ gr
  paold : ∀ q, pa = some q → pv0.ownBlock = some q.block
  len : vs.length = k
theorem Rdr.keep {B : Nat} {w w' : World} {g gl gr : Nat} {s : Disk.St} {own : Nat → Nat} {hb : Bool} {P S : List Nat} {rs : List (List Nat)} {j p : Nat} {pa da : Option Addr} (h : Rdr B w g gl gr s own hb P S rs j p pa da) (hs : w.heap.size ≤ w'.heap.size)
    (k : ∀ b, RFoot gr da b ∨ (∃ q, pa = some q ∧ q.block = b) → b < w.heap.size → w'.heap[b]? = w.heap[b]?) : Rdr B w' g gl gr s own hb P S rs j p pa da := by
  obtain ⟨pc, dc, hm⟩ := h.mem
  exact ⟨⟨pc, dc, hm.keep k⟩, h.free.size hs, h.els, fun q hq => Nat.lt_of_lt_of_le (h.old q hq) hs, h.hj, h.pin, h.rest, h.good⟩
theorem oct_of_stream {rs : List (List Nat)} (h : Oct (Tape.stream rs)) {i : Nat} (hi : i < rs.length) : Oct (rs.getD i []) := by
  intro c hc
  refine h c ?_
  unfold Tape.stream
  refine List.mem_flatten.2 ⟨Tape.frame (rs.getD i []), List.mem_map.2 ⟨_, ?_, rfl⟩, ?_⟩
  · rw [List.getD_eq_getElem?_getD, List.getElem?_eq_getElem hi]; exact List.getElem_mem _
  · unfold Tape.frame; exact List.mem_append_right _ hc
theorem ReadLInv.next {B g gl gr gt : Nat} {s : Disk.St} {own : Nat → Nat} {L : Int × Int × Int} {P : List Nat} {rs : List (List Nat)} {pv0 : Value} {w : World} {k : Nat} {v : Value} {vs : List Value} {wr : World} {s' : Disk.St} {j : Nat} {pa da : Option Addr} (h : ReadLInv B g gl gr gt s own L P rs pv0 w k v vs wr s' j pa da)
    (hS : Sys B w g gl s own L) (hpv : ∀ b, pv0.ownBlock = some b → b < w.heap.size) (hoct : Oct (Tape.stream rs)) (hk : k < rs.length) {vr : Value} {w2 : World} {s2 : Disk.St} {L2 : Int × Int × Int} (hN : NextPost B g gl gr s' own (L.1, tkH L.2.1 s.page, tkM L.2.1 L.2.2 s.page) (tkB L.2.1 s.page) P (Tape.stream rs) (rs.getD k []) (rs.drop (k + 1)) j (Tape.stream (rs.take k)).length pa da wr 0 vr w2 s2 L2)
    (o : Obj) {w3 : World} {v' : Value} (hrow : w3.ownsRow 0 29 1 v' (k + 1) (vs ++ [vr])) (hL : Lies (w2.alloc o) w3 v v') :
    ∃ j2 pa2 da2, ReadLInv B g gl gr gt s own L P rs pv0 w (k + 1) v' (vs ++ [vr]) w3 s2 j2 pa2 da2 := by
  obtain ⟨rfl, hvr, j2, pa2, da2, hj2, hR2, hV2, hvf, hpaf⟩ := hN.ok rfl
  have hts := take_getD rs hk
  have es : Tape.stream (rs.take (k + 1)) = Tape.stream (rs.take k) ++ Tape.frame (rs.getD k []) := by rw [hts, Tape.stream_snoc]
  have hw1 := h.move.touch.size
  have hw2 := hV2.touch.size
  have hw3 := lies_size hL
  have hwa : (w2.alloc o).heap.size = w2.heap.size + 1 := by simp
  have hgl := hS.led.lt
  have hlk : (rs.take k).length = k := by rw [List.length_take]; omega
  have hvb : ∀ b, v.ownBlock = some b → w.heap.size ≤ b ∧ b < wr.heap.size := fun b hb => h.out.row.lt b hb
  have hfr : ∀ b, w.heap.size ≤ b → own b = 0 := fun b hb => hS.disk.fresh b hb
  have hv'b : v'.ownBlock = v.ownBlock ∨ v'.ownBlock = some (w2.heap.size + 1) := by
    rcases hL with ⟨e, _⟩ | ⟨e, _⟩
    · exact .inl e
    · exact .inr (by rw [e, hwa])
  have hk3 : ∀ b, b < w2.heap.size → v.ownBlock ≠ some b → w3.heap[b]? = w2.heap[b]? := fun b hb hne => (lies_block hL (by omega) hne).trans (Below.heap_alloc w2 o b hb)
  have hT23 : Touch (fun b => v.ownBlock = some b) w2 w3 := ((Touch.refl _ w2).alloc o).trans (lies_touch hL) fun _ _ h => h
  have hel : ∀ i, i < k → ∀ b, (vs.getD i undef).ownBlock = some b → w.heap.size ≤ b ∧ b < wr.heap.size := fun i hi b hb => (h.out.each i (by rw [hlk]; exact hi)).lt b hb
  have hgi : ∀ i, i < k → (vs ++ [vr]).getD i undef = vs.getD i undef := fun i hi => by
    simp [List.getD_eq_getElem?_getD, List.getElem?_append_left (show i < vs.length by rw [h.len]; exact hi)]
  have hgk : (vs ++ [vr]).getD k undef = vr := by
    have := h.len
    subst this
    simp [List.getD_eq_getElem?_getD]
  have hri : ∀ i, i < k → (rs.take (k + 1)).getD i [] = (rs.take k).getD i [] := fun i hi => by
    simp [List.getD_eq_getElem?_getD, show i < k + 1 by omega, hi]
  have hrk : (rs.take (k + 1)).getD k [] = rs.getD k [] := by
    simp [List.getD_eq_getElem?_getD]
  have hlk1 : (rs.take (k + 1)).length = k + 1 := by rw [List.length_take]; omega
  have holdne : ∀ b, b < wr.heap.size → ¬ RFoot gr da b → ¬ RFoot gr da2 b := fun b hb hn hf => hn (hV2.foot b hb hf)
  refine ⟨j2, pa2, da2, hN.sys.touch hT23 (fun b _ hb => ?_), h.same.trans hN.same, hN.pages.trans h.pages, ?_, ?_, ?_, ⟨?_, fun i hi => ?_, fun i b hi hb => ?_, fun i hi => ?_⟩, fun b hb => ?_, h.old, fun q hq => ?_, by simp [h.len]⟩
  · have h1 := hvb b hb
    exact ⟨Nat.le_trans hS.size h1.1, hfr b h1.1, by omega⟩
  · rw [es, List.length_append, Tape.length_frame]
    have := h.ops; have := hN.ops
    omega
  · have e2 : (Tape.stream (rs.take (k + 1))).length = (Tape.stream (rs.take k)).length + (4 + (rs.getD k []).length) := by rw [es, List.length_append, Tape.length_frame]
    rw [e2]
    refine hR2.keep (by omega) fun b hb hlt => hk3 b hlt fun e => ?_
    have h1 := hvb b e
    rcases hb with hb | ⟨q, hq, rfl⟩
    · exact holdne b h1.2 (h.apart b (.inl e)) hb
    · obtain ⟨q', hq', e3⟩ := hpaf q hq
      have := hpv _ (h.paold q' hq')
      omega
  · refine ⟨(h.move.trans hV2).touch.trans hT23 (fun b hb e => by have := hvb b e; omega), fun b hb => rfl, fun b hb hf => h.move.foot b hb (hV2.foot b (by omega) hf), fun b hb => ?_⟩
    obtain ⟨h1, h2, h3, h4⟩ := hV2.free b hb
    exact ⟨h1, h2, h3, by omega⟩
  · rw [hlk1]
    refine row_up hrow fun b hb => ?_
    rcases hv'b with e | e
    · rw [e] at hb; exact (hvb b hb).1
    · rw [e] at hb; simp at hb; omega
  · rw [hlk1] at hi
    rcases Nat.lt_or_ge i k with h1 | h1
    · rw [hgi i h1, hri i h1]
      refine ownsRow_keep (h.out.each i (by rw [hlk]; exact h1)) fun b hb => ?_
      have h2 := hel i h1 b hb
      exact (hk3 b (by omega) (h.out.apart i b (by rw [hlk]; exact h1) hb)).trans (hV2.same h2.2 (hfr b h2.1) (by omega) (h.apart b (.inr ⟨i, h1, hb⟩)))
    · obtain rfl : i = k := by omega
      rw [hgk, hrk]
      refine ownsRow_keep (ownsRow_base hw1 hvr) fun b hb => hk3 b (hvr.lt b hb).2 fun e => ?_
      have h2 := (hvr.lt b hb).1
      have h3 := hvb b e
      omega
  · rw [hlk1] at hi
    rcases Nat.lt_or_ge i k with h1 | h1
    · rw [hgi i h1] at hb
      have h2 := hel i h1 b hb
      rcases hv'b with e | e
      · rw [e]; exact h.out.apart i b (by rw [hlk]; exact h1) hb
      · rw [e]; simp; omega
    · obtain rfl : i = k := by omega
      rw [hgk] at hb
      have h2 := hvr.lt b hb
      rcases hv'b with e | e
      · rw [e]; intro e3; have := hvb b e3; omega
      · rw [e]; simp; omega
  · rw [hlk1] at hi
    rcases Nat.lt_or_ge i k with h1 | h1
    · rw [hri i h1]; exact h.out.oct i (by rw [hlk]; exact h1)
    · obtain rfl : i = k := by omega
      rw [hrk]; exact oct_of_stream hoct hk
  · rcases hb with hb | ⟨i, hi, hb⟩
    · rcases hv'b with e | e
      · rw [e] at hb
        exact holdne b (hvb b hb).2 (h.apart b (.inl hb))
      · rw [e] at hb
        simp at hb
        intro hf
        have := (hV2.free b hf).2.2.2
        omega
    · rcases Nat.lt_or_ge i k with h1 | h1
      · rw [hgi i h1] at hb
        exact holdne b (hel i h1 b hb).2 (h.apart b (.inr ⟨i, h1, hb⟩))
      · obtain rfl : i = k := by omega
        rw [hgk] at hb
        exact hvf b hb
  · obtain ⟨q', hq', e⟩ := hpaf q hq
    rw [e]; exact h.paold q' hq'
set_option maxRecDepth 100000 in
set_option maxHeartbeats 4000000 in
theorem readL_any (B g gl gt : Nat) (s : Disk.St) (own : Nat → Nat) (L : Int × Int × Int) (P : List Nat) (rs : List (List Nat)) (dropped : Bool) (pv : Value) (w : World) (hS : Sys B w g gl s own L) (h : TpMem w gt g P rs.length dropped pv) (hF : Free B gl w own (TFoot gt pv)) (hT : Tape.Tp s P (Tape.stream rs))
    (hlen : ∀ i, i < rs.length → (rs.getD i []).length ≤ 1048640) (hn : rs.length ≤ 1000000) (ho : s.ops + (Tape.stream rs).length < 4611686018300000000) :
    Calls Tryd.prog 20 #[.pointer (some ⟨gt, 0, none⟩), .pointer (some ⟨gl, 0, none⟩)] w (ReadLEnd B g gl s own L P rs w) := by
  have HC := Lib.hid (topen_any B g gl gt s own L P (Tape.stream rs) rs dropped pv w hS h hF rfl)
  have HS := Lib.hid hS
  have HM := Lib.hid h
  have HF := Lib.hid hF
  have HT := Lib.hid hT
  have HLEN := Lib.hid hlen
  obtain ⟨n, hn2⟩ : ∃ n, n = rs.length := ⟨_, rfl⟩
  have HN := Lib.hid hn2
  rw [← hn2] at hn
  obtain ⟨i0, hi, hz0, hz1, hz2⟩ := info_parts infoRows
  clear hS h hF hT hlen hn2
  go_enter Tryd.func20, Tryd.ntmps20
  go_wp2_with fail
  refine HC.out.mono ?_
  rintro e w1 ⟨gr, pa, rfl, hpa, hO⟩
  have hI0 : ReadLInv B g gl gr gt s own L P rs pv w 0 (.slice none 0 0) [] w1 s 0 pa none := by
    refine ⟨hO.sys, Disk.Same.refl s, rfl, by omega, by simpa [Tape.stream] using hO.rdr, hO.move, ⟨World.ownsRow_nil _ _ _ _, fun i hi => by simp at hi, fun i b hi => by simp at hi, fun i hi => by simp at hi⟩, fun b hb => ?_, hO.fresh, hpa, rfl⟩
    rcases hb with hb | ⟨i, hi, _⟩
    · simp [Value.ownBlock] at hb
    · omega
  have HI0 := Lib.hid hI0
  clear hO hpa HC hI0
  unfold ptr
  go_wp2_with fail
  go_loopw [7, 8] (fun ov iv wr => ∃ (k : Nat) (va : Option Addr) (vc : Nat) (vs : List Value) (s' : Disk.St) (j : Nat) (pa da : Option Addr), k ≤ n ∧ iv = .int .i64 (k : Int) ∧ ov = .slice va k vc ∧ Hid (ReadLInv B g gl gr gt s own L P rs pv w k (.slice va k vc) vs wr s' j pa da)) (fun _ iv _ => n + 1 - (intOf iv).toNat)
  case atStart => exact ⟨0, none, 0, [], s, 0, pa, none, Nat.zero_le _, rfl, rfl, HI0⟩
  case round =>
    obtain ⟨k, va, vc, vs, s', j, pa', da', hk, rfl, rfl, hI⟩ := hrel
    have HI := hI
    clear hI HI0
    have h := HI.out
    have hgt : ∀ b, TFoot gt pv b → wr.heap[b]? = w.heap[b]? := fun b hb => by
      obtain ⟨h1, h2, h3, h4⟩ := HF.out b hb
      exact h.move.same h4 h2 h3 (fun f => f)
    have hcm := count_any gt g P rs.length dropped pv wr (HM.out.keep hgt)
    rw [← HN.out] at hcm
    have HCM := Lib.hid hcm
    have hki : (k : Int) ≤ (n : Int) := by omega
    clear h hgt hcm
    by_cases hlt : k < n
    · have h := HI.out
      have hkr : k < rs.length := by rw [← HN.out]; exact hlt
      have hdr : rs.drop k = rs.getD k [] :: rs.drop (k + 1) := by
        rw [List.getD_eq_getElem?_getD, List.getElem?_eq_getElem hkr]
        exact List.drop_eq_getElem_cons hkr
      have hR := h.rdr
      rw [hdr] at hR
      have hle := HLEN.out k hkr
      have hst := stream_take_le rs (k + 1)
      rw [take_getD rs hkr, Tape.stream_snoc, List.length_append, Tape.length_frame] at hst
      have C := next_any B g gl gr s' own (L.1, tkH L.2.1 s.page, tkM L.2.1 L.2.2 s.page) (tkB L.2.1 s.page) P (Tape.stream rs) (rs.getD k []) (rs.drop (k + 1)) j _ pa' da' wr h.sys (HT.out.keep h.same (fun _ _ => by rw [h.pages])) hR (by omega) (by rw [List.length_drop, ← HN.out]; omega) (by have := h.ops; omega)
      have HC := Lib.hid C
      have HKR := Lib.hid hkr
      have HST := Lib.hid hst
      clear h hR hdr C hle hst hkr
      go_wp2_with fail
      refine HCM.out.mono ?_
      rintro e w' ⟨rfl, rfl⟩
      go_wp2_with fail
      refine HC.out.mono ?_
      rintro e w2 ⟨E, vr, s2, L2, rfl, hN⟩
      by_cases hE : E = 0
      · subst hE
        obtain ⟨ra, rn, rc, hvr⟩ := row_slice (hN.ok rfl).2.1
        subst hvr
        have HNX := Lib.hid hN
        have hown0 := HI.out.out.row
        have hlk : (rs.take k).length = k := by rw [List.length_take]; have := HKR.out; omega
        rw [hlk] at hown0
        obtain ⟨_, _, j2, pa2, da2, _, _, hV2, _, _⟩ := hN.ok rfl
        have hownw2 : w2.ownsRow 0 29 1 (.slice va k vc) k vs := ownsRow_base (Nat.zero_le _) (ownsRow_keep hown0 fun b hb => by
          have h1 := hown0.lt b hb
          exact hV2.same h1.2 (HS.out.disk.fresh b h1.1) (by have := HS.out.led.lt; omega) (HI.out.apart b (.inl hb)))
        have hown := hownw2.alloc (.cells #[.slice ra rn rc] 29)
        have hnw : ∀ j u, ([.slice ra rn rc] : List Value)[j]? = some u → (w2.alloc (.cells #[.slice ra rn rc] 29)).cell? (Addr.add ⟨w2.heap.size, 0, none⟩ j) = some u := by
          intro j u hj
          cases j with
          | zero =>
            simp at hj
            subst hj
            show (w2.alloc _).cell? ⟨w2.heap.size, 0, none⟩ = _
            rw [cell_of_row _ _ 0 _ _ _ (heap_alloc_new w2 _)]; rfl
          | succ j => simp at hj
        have HOWN := Lib.hid hown
        have HNW := Lib.hid hnw
        clear hN hown0 hlk hV2 hownw2 hown hnw HC HCM
        simp only [decide_true]
        go_wp2_with (at_builtin; refine wpList_append_or _ rfl _ _ 41 rfl 29 i0 (.slice none 0 0) 24 Tryd.underlying41 hi hz0 hz1 hz2 rfl (.slice va k vc) k vs rfl HOWN.out ⟨w2.heap.size, 0, none⟩ 1 1 [.slice ra rn rc] rfl rfl (by decide) HNW.out (fun u hu => by simp at hu; subst hu; rfl) (by unfold maxLen; omega) (by omega) ?_)
        intro v' w3 hrow hLie
        obtain ⟨va2, vn2, vc2, hv'⟩ := row_slice hrow
        have hvn2 := row_len hrow hv'
        subst hvn2
        subst hv'
        obtain ⟨j3, pa3, da3, hI3⟩ := HI.out.next HS.out (fun b hb => HM.out.lt b (.inr hb)) HT.out.oct HKR.out HNX.out _ hrow hLie
        have HI3 := Lib.hid hI3
        clear hrow hLie hI3 HI HNX
        go_wp2_with fail
        go_roundw
        case rel => exact ⟨k + 1, va2, vc2, _, s2, j3, pa3, da3, by omega, by go_num, rfl, HI3⟩
        case measure => simp [intOf]; omega
      · have dE : ((E : Int) != 0) = true := by rw [bne_iff_ne]; omega
        have HNX := Lib.hid hN
        have HE := Lib.hid hE
        clear hN hE HC HCM
        go_wp2_with fail
        go_ret2
        have h := HI.out
        have hN := HNX.out
        obtain ⟨rfl, _, _, hV2⟩ := hN.bad HE.out
        have hkeep : ∀ b, w.heap.size ≤ b → b < wr.heap.size → ((Value.slice va k vc).ownBlock = some b ∨ ∃ i, i < (rs.take k).length ∧ (vs.getD i undef).ownBlock = some b) → w2.heap[b]? = wr.heap[b]? := fun b hb hlt hx => by
          refine hV2.same hlt (HS.out.disk.fresh b hb) (by have := HS.out.led.lt; omega) (h.apart b ?_)
          rcases hx with hx | ⟨i, hi, hx⟩
          · exact .inl hx
          · exact .inr ⟨i, by rw [List.length_take] at hi; omega, hx⟩
        refine ⟨E, k, .slice va k vc, vs, s2, rfl, by have := hN.sys; rw [h.same.page] at this; exact this, h.same.trans hN.same, hN.pages.trans h.pages, ?_, hN.err, Nat.le_of_lt HKR.out, fun h0 => absurd h0 HE.out, h.out.keep hkeep, (h.move.trans hV2).shrink fun _ f => f.elim, ⟨j, h.rdr.hj, ?_, fun i hi => (good_same h.same.page h.pages).1 (h.rdr.good i hi)⟩, fun hc => hN.calm (h.same.calm hc), fun hc hg => hN.good (h.same.calm hc) fun i hi => (good_same h.same.page h.pages).2 (hg i hi)⟩
        · have := h.ops; have := hN.ops; have := HST.out; omega
        · have := h.rdr.pin
          rw [h.same.page] at this
          omega
    · have hk' : k = n := by omega
      subst hk'
      have h := HI.out
      have hR := h.rdr
      rw [List.drop_eq_nil_of_le (by rw [HN.out]; exact Nat.le_refl _)] at hR
      have HC := Lib.hid (next_none B g gl gr s' own (L.1, tkH L.2.1 s.page, tkM L.2.1 L.2.2 s.page) (tkB L.2.1 s.page) P (Tape.stream rs) j _ pa' da' wr h.sys hR)
      clear h hR
      go_wp2_with fail
      refine HCM.out.mono ?_
      rintro e w' ⟨rfl, rfl⟩
      go_wp2_with fail
      refine HC.out.mono ?_
      rintro e w2 ⟨rfl, hs2, hv2⟩
      have HS2 := Lib.hid hs2
      have HV2 := Lib.hid hv2
      clear hs2 hv2 HC HCM
      go_wp2_with fail
      go_ret2
      have h := HI.out
      have hst : rs.take k = rs := List.take_of_length_le (by rw [HN.out]; exact Nat.le_refl _)
      have hkeep : ∀ b, w.heap.size ≤ b → b < wr.heap.size → ((Value.slice va k vc).ownBlock = some b ∨ ∃ i, i < (rs.take k).length ∧ (vs.getD i undef).ownBlock = some b) → w2.heap[b]? = wr.heap[b]? := fun b hb hlt hx => by
        refine HV2.out.same hlt (HS.out.disk.fresh b hb) (by have := HS.out.led.lt; omega) (h.apart b ?_)
        rcases hx with hx | ⟨i, hi, hx⟩
        · exact .inl hx
        · exact .inr ⟨i, by rw [List.length_take] at hi; omega, hx⟩
      refine ⟨0, k, .slice va k vc, vs, s', rfl, by have := HS2.out; rw [h.same.page] at this; exact this, h.same, h.pages, by have := h.ops; rw [hst] at this; exact this, .inl rfl, by rw [HN.out]; exact Nat.le_refl _, fun _ => HN.out, h.out.keep hkeep, (h.move.trans HV2.out).shrink fun _ f => f.elim, ⟨j, h.rdr.hj, ?_, fun i hi => (good_same h.same.page h.pages).1 (h.rdr.good i hi)⟩, fun _ => by decide, fun _ _ => rfl⟩
      have := h.rdr.pin
      rw [h.same.page] at this
      omega
end Go.Proofs.YtbkiahnljklhpaaDoor
