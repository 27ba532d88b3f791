/- RECORDS AS THEY COME IN, AND THE WALK OF Make. -/
import Derived.Test.YtbkiahnljklhpaaDoorTapeClose
namespace Go.Proofs.YtbkiahnljklhpaaDoor
open Go.RowKit
open Seal
/-- A slice of slices of bytes that is read: each record; 'Ok b': what is known of each block that is read. -/
def RowsIn (w : World) (a : Option Addr) (rs : List (List Nat)) (Ok : Nat → Prop) : Prop :=
  rs = [] ∨ ∃ b off, a = some ⟨b, off, none⟩ ∧ Ok b ∧ ∀ i, i < rs.length → ∃ ai ci, w.cell? ⟨b, off + i, none⟩ = some (.slice ai (rs.getD i []).length ci) ∧ (rs.getD i []).length ≤ ci ∧ ci ≤ 9223372036854775807 ∧ SliceIs w ai (rs.getD i []) ∧ Oct (rs.getD i []) ∧ (rs.getD i [] ≠ [] → ∀ p, ai = some p → Ok p.block)
theorem RowsIn.keep {w w' : World} {a : Option Addr} {rs : List (List Nat)} {Ok Ok' : Nat → Prop} (h : RowsIn w a rs Ok) (k : ∀ b, b < w.heap.size → Ok b → w'.heap[b]? = w.heap[b]?) (ho : ∀ b, b < w.heap.size → Ok b → Ok' b) : RowsIn w' a rs Ok' := by
  rcases h with h | ⟨b, off, rfl, hb, h⟩
  · exact .inl h
  · by_cases hne : rs = []
    · exact .inl hne
    have hbl : b < w.heap.size := by
      obtain ⟨ai, ci, h1, _⟩ := h 0 (List.length_pos_iff.2 hne)
      exact World.block_lt_of_cell? w _ h1
    refine .inr ⟨b, off, rfl, ho b hbl hb, fun i hi => ?_⟩
    obtain ⟨ai, ci, h1, h2, h3, h4, h5, h6⟩ := h i hi
    refine ⟨ai, ci, (World.cell?_of_block (a := ⟨b, off + i, none⟩) (k b hbl hb)).trans h1, h2, h3, ?_, h5, fun hn p hp => ?_⟩
    · by_cases hn : rs.getD i [] = []
      · exact .inl hn
      · obtain ⟨b2, o2, e, h7⟩ := h4.resolve_left hn
        exact .inr ⟨b2, o2, e, fun j hj => (World.cell?_of_block (a := ⟨b2, o2 + j, none⟩) (k b2 (World.block_lt_of_cell? w _ (h7 j hj)) (h6 hn _ e))).trans (h7 j hj)⟩
    · obtain ⟨b2, o2, e, h7⟩ := h4.resolve_left hn
      rw [hp] at e
      obtain rfl := Option.some.inj e
      exact ho b2 (World.block_lt_of_cell? w _ (h7 0 (List.length_pos_iff.2 hn))) (h6 hn _ hp)
theorem RowsIn.at_ {w : World} {a : Option Addr} {rs : List (List Nat)} {Ok : Nat → Prop} (h : RowsIn w a rs Ok) {i : Nat} (hi : i < rs.length) :
    ∃ b off ai ci, a = some ⟨b, off, none⟩ ∧ w.cell? ⟨b, off + i, none⟩ = some (.slice ai (rs.getD i []).length ci) ∧ (rs.getD i []).length ≤ ci ∧ ci ≤ 9223372036854775807 ∧ SliceIs w ai (rs.getD i []) ∧ Oct (rs.getD i []) ∧ (rs.getD i [] ≠ [] → ∀ p, ai = some p → Ok p.block) := by
  rcases h with h | ⟨b, off, e, _, h⟩
  · rw [h] at hi; simp at hi
  · obtain ⟨ai, ci, h1⟩ := h i hi
    exact ⟨b, off, ai, ci, e, h1⟩
/-- What a Make leaves. -/
structure MakePost (B g gl : Nat) (s : Disk.St) (own : Nat → Nat) (L : Int × Int × Int) (rs : List (List Nat)) (w : World) (E : Nat) (tv : Value) (w' : World) (s' : Disk.St) (own' : Nat → Nat) : Prop where
  sys : Sys B w' g gl s' own' (backL (tkB L.2.1 s.page) s.page (L.1, tkH L.2.1 s.page, tkM L.2.1 L.2.2 s.page))
  same : Disk.Same s s'
  ops : s'.ops ≤ s.ops + 2 * (Tape.stream rs).length + 16400 * (rs.length + 1)
  err : E = 0 ∨ E = 16 ∨ E = 17
  calm : Disk.Calm s → Disk.live s.pages + Tape.need (s.page - 10) (Tape.stream rs).length ≤ s.most → E = 0
  ok : E = 0 → ∃ gt P pv, tv = ptr gt ∧ w.heap.size ≤ gt ∧ Tape.Tp s' P (Tape.stream rs) ∧ Tape.Whole s' P (Tape.stream rs) ∧ TpMem w' gt g P rs.length false pv ∧ Move B gl w w' own own' (fun _ => False) (TFoot gt pv) ∧ Disk.Grow s s' [] P
  bad : E ≠ 0 → tv = .pointer none ∧ Move B gl w w' own own' (fun _ => False) (fun _ => False) ∧ Gone s s' []
def MakeEnd (B g gl : Nat) (s : Disk.St) (own : Nat → Nat) (L : Int × Int × Int) (rs : List (List Nat)) (w : World) (e : Ending) (w' : World) : Prop :=
  ∃ (E : Nat) (tv : Value) (s' : Disk.St) (own' : Nat → Nat), e = .returned (.tuple #[tv, .int .i64 (E : Int)]) ∧ MakePost B g gl s own L rs w E tv w' s' own'
structure MakeInv (B g gl gw : Nat) (s : Disk.St) (own : Nat → Nat) (L : Int × Int × Int) (rs : List (List Nat)) (w : World) (k : Nat) (w' : World) (P : List Nat) (s' : Disk.St) (own' : Nat → Nat) (pv dv : Value) : Prop where
  sys : Sys B w' g gl s' own' (L.1, tkH L.2.1 s.page, tkM L.2.1 L.2.2 s.page)
  same : Disk.Same s s'
  ops : s'.ops ≤ s.ops + 2 * (Tape.stream (rs.take k)).length + 16400 * k
  wr : Tape.Wr s' P (Tape.stream (rs.take k))
  tight : P = [] ∨ Tape.tail_ s' P (Tape.stream (rs.take k)) ≠ []
  mem : WrMem w' gw g gl s'.page (tkB L.2.1 s.page) P (Tape.tail_ s' P (Tape.stream (rs.take k))) k pv dv
  move : Move B gl w w' own own' (fun _ => False) (WFoot gw pv dv)
  grow : Disk.Grow s s' [] P
theorem take_getD (rs : List (List Nat)) {k : Nat} (h : k < rs.length) : rs.take (k + 1) = rs.take k ++ [rs.getD k []] := by
  rw [List.take_succ_eq_append_getElem h, List.getD_eq_getElem?_getD, List.getElem?_eq_getElem h]; rfl
theorem stream_take_le (rs : List (List Nat)) (k : Nat) : (Tape.stream (rs.take k)).length ≤ (Tape.stream rs).length := by
  conv => rhs; rw [← List.take_append_drop k rs, Tape.stream_append, List.length_append]
  omega
theorem gone_of_grow {s s1 s2 : Disk.St} {P : List Nat} (h : Disk.Grow s s1 [] P) (k : Gone s1 s2 P) : Gone s s2 [] := by
  refine ⟨fun n => ?_, by have := h.live; have := k.live; simp at *; omega⟩
  rw [if_neg (by simp), k.pages n]
  split
  · rename_i hn
    obtain ⟨Q, hQ, hq⟩ := h.ext
    rw [List.nil_append] at hQ
    subst hQ
    exact (not_used (hq n hn)).symm
  · rename_i hn; exact h.other n hn
set_option maxRecDepth 100000 in
set_option maxHeartbeats 4000000 in
theorem make_any (B g gl : Nat) (s : Disk.St) (own : Nat → Nat) (L : Int × Int × Int) (a : Option Addr) (n cap : Nat) (rs : List (List Nat)) (w : World) (hS : Sys B w g gl s own L) (hn : rs.length = n) (hR : RowsIn w a rs fun b => own b = 0 ∧ b ≠ gl) (hlen : ∀ i, i < n → (rs.getD i []).length ≤ 1048640) (hn2 : n ≤ 1000000)
    (ho : s.ops + 2 * (Tape.stream rs).length + 16400 * (n + 1) < 4611686018300000000) :
    Calls Tryd.prog 17 #[.pointer (some ⟨g, 0, none⟩), .pointer (some ⟨gl, 0, none⟩), .slice a n cap] w (MakeEnd B g gl s own L rs w) := by
  have HC := Lib.hid (create_any B g gl s own L w hS)
  have HS := Lib.hid hS
  have HN := Lib.hid hn
  have HR := Lib.hid hR
  have HLEN := Lib.hid hlen
  clear hS hn hR hlen
  go_enter Tryd.func17, Tryd.ntmps17
  go_wp2_with fail
  refine HC.out.mono ?_
  rintro e w1 ⟨gw, rfl, hC⟩
  have hI0 : MakeInv B g gl gw s own L rs w 0 w1 [] s own (.slice none 0 0) (.slice none 0 0) := by
    refine ⟨hC.sys, Disk.Same.refl s, by simp [Tape.stream], by simpa [Tape.stream] using Tape.Wr.empty s, .inl rfl, by simpa [Tape.tail_, Tape.stream] using hC.mem, ?_, ⟨⟨[], by simp, by simp⟩, List.nodup_nil, by simp, fun _ _ => rfl, rfl⟩⟩
    exact hC.move.shrink fun b hb => by
      rcases hb with h | h | h
      · exact h
      · simp [Value.ownBlock] at h
      · simp [Value.ownBlock] at h
  have HI0 := Lib.hid hI0
  clear hC HC hI0
  unfold ptr
  go_wp2_with fail
  go_loopw [9] (fun iv wr => ∃ (k : Nat) (P : List Nat) (s' : Disk.St) (own' : Nat → Nat) (pv dv : Value), k ≤ n ∧ iv = .int .i64 (k : Int) ∧ Hid (MakeInv B g gl gw s own L rs w k wr P s' own' pv dv)) (fun iv _ => n - (intOf iv).toNat)
  case atStart => exact ⟨0, [], s, own, _, _, Nat.zero_le _, rfl, HI0⟩
  case round =>
    obtain ⟨k, P, s', own', pv, dv, hk, rfl, hI⟩ := hrel
    have HI := hI
    clear hI HI0
    by_cases hlt : k < n
    · obtain ⟨b, off, ai, ci, e, h1, h2, h3, h4, h5, h6⟩ := HR.out.at_ (i := k) (by rw [HN.out]; exact hlt)
      subst e
      have h := HI.out
      have hbOk : own b = 0 ∧ b ≠ gl := by
        rcases HR.out with e | ⟨b2, o2, e, hb2, _⟩
        · have := HN.out; rw [e] at this; simp at this; omega
        · simp only [Option.some.injEq, Addr.mk.injEq, and_true] at e
          rw [e.1]; exact hb2
      have hcell : wr.cell? ⟨b, off + k, none⟩ = some (.slice ai (rs.getD k []).length ci) := (World.cell?_of_block (a := ⟨b, off + k, none⟩) (h.move.same (World.block_lt_of_cell? w _ h1) hbOk.1 hbOk.2 (fun f => f))).trans h1
      have hsl : SliceIs wr ai (rs.getD k []) := sliceIs_move h4 (fun hne p hp => ⟨(h6 hne p hp).1, (h6 hne p hp).2, fun f => f⟩) h.move
      have hel : rs.getD k [] ≠ [] → Else ai gl own' (WFoot gw pv dv) := else_move h4 (fun hne p hp => ⟨(h6 hne p hp).1, (h6 hne p hp).2, fun f => f⟩) h.move
      have hle := HLEN.out k hlt
      have hst := stream_take_le rs k
      have C := add_any B g gl gw s' own' (L.1, tkH L.2.1 s.page, tkM L.2.1 L.2.2 s.page) (tkB L.2.1 s.page) P (Tape.stream (rs.take k)) (rs.getD k []) k pv dv ai _ ci wr h.sys h.wr h.mem h.move.free h.tight rfl h2 h3 h5 hsl hel hle (by omega) (by have := h.ops; omega)
      have HC := Lib.hid C
      have hts := take_getD rs (k := k) (by rw [HN.out]; exact hlt)
      have HTS := Lib.hid hts
      obtain ⟨rl, hrl⟩ : ∃ rl, rl = (rs.getD k []).length := ⟨_, rfl⟩
      rw [← hrl] at HC hcell
      have HRL := Lib.hid hrl
      clear h h1 h2 h3 h4 h5 h6 hsl hel C hts hst hle hrl
      go_wp2_with fail
      refine HC.out.mono ?_
      rintro e w2 ⟨E, s2, own2, L2, rfl, hA⟩
      by_cases hE : E = 0
      · subst hE
        obtain ⟨rfl, P2, pv2, dv2, ha1, ha2, ha3, ha4, ha5⟩ := hA.ok rfl
        have h := HI.out
        have hI2 : MakeInv B g gl gw s own L rs w (k + 1) w2 P2 s2 own2 pv2 dv2 := by
          have es : Tape.stream (rs.take (k + 1)) = Tape.stream (rs.take k) ++ Tape.frame (rs.getD k []) := by rw [HTS.out, Tape.stream_snoc]
          refine ⟨hA.sys, h.same.trans hA.same, ?_, by rw [es]; exact ha1, .inr (by rw [es]; exact ha2), by rw [es]; exact ha3, h.move.trans ha4, h.grow.trans ha5⟩
          rw [es, List.length_append, Tape.length_frame]
          have := h.ops; have := hA.ops
          omega
        have HI2 := Lib.hid hI2
        clear hA ha1 ha2 ha3 ha4 ha5 hI2 h HI HC
        go_wp2_with fail
        go_roundw
        case rel => exact ⟨k + 1, P2, s2, own2, pv2, dv2, by omega, by go_num, HI2⟩
        case measure => simp [intOf]; omega
      · have dE : ((E : Int) != 0) = true := by rw [bne_iff_ne]; omega
        have HA := Lib.hid hA
        have HE := Lib.hid hE
        clear hA hE HC
        go_wp2_with fail
        go_ret2
        have h := HI.out
        have hA := HA.out
        obtain ⟨rfl, _, hb2, hb3⟩ := hA.bad HE.out
        have hst := stream_take_le rs (k + 1)
        rw [HTS.out, Tape.stream_snoc, List.length_append, Tape.length_frame] at hst
        refine ⟨E, .pointer none, s2, own2, rfl, by have := hA.sys; rw [h.same.page] at this; exact this, h.same.trans hA.same, ?_, hA.err, fun hc hl => ?_, fun h0 => absurd h0 HE.out, fun _ => ⟨rfl, (h.move.trans hb2).shrink fun _ f => f.elim, gone_of_grow h.grow hb3⟩⟩
        · have := h.ops; have := hA.ops
          have h7 := Nat.mul_le_mul_left 16400 (show k + 1 ≤ rs.length by rw [HN.out]; omega)
          omega
        · refine hA.calm (h.same.calm hc) ?_
          have h8 := h.grow.live
          have h9 : Tape.need (s.page - 10) ((Tape.stream (rs.take k)).length + (4 + (rs.getD k []).length)) ≤ Tape.need (s.page - 10) (Tape.stream rs).length := Tape.need_mono (by omega)
          rw [h.same.page, h.same.most]
          simp at h8
          omega
    · have hk' : k = n := by omega
      subst hk'
      have h := HI.out
      have hst : rs.take k = rs := List.take_of_length_le (by rw [HN.out]; exact Nat.le_refl _)
      have hW := h.wr
      have hM := h.mem
      have hT := h.tight
      have hO := h.ops
      rw [hst] at hW hM hT hO
      have C := close_any B g gl gw s' own' (L.1, tkH L.2.1 s.page, tkM L.2.1 L.2.2 s.page) (tkB L.2.1 s.page) P (Tape.stream rs) k pv dv wr h.sys hW hM h.move.free hT (by omega)
      have HC := Lib.hid C
      have HO := Lib.hid hO
      clear C h hst hW hM hT hO
      go_wp2_with fail
      refine HC.out.mono ?_
      rintro e w2 ⟨E, tv, s2, rfl, hC⟩
      have HCl := Lib.hid hC
      clear hC HC
      go_wp2_with fail
      go_ret2
      have h := HI.out
      have hC := HCl.out
      refine ⟨E, tv, s2, own', rfl, by have := hC.sys; rw [h.same.page] at this; exact this, h.same.trans hC.same, ?_, ?_, fun hc _ => hC.calm (h.same.calm hc), fun h0 => ?_, fun h0 => ?_⟩
      · have := hC.ops; have := HO.out; rw [HN.out]; omega
      · rcases hC.err with e | e
        · exact .inl e
        · exact .inr (.inl e)
      · obtain ⟨gt, rfl, h1, h2, h3, h4, h5, h6, h7⟩ := hC.ok h0
        refine ⟨gt, P, pv, rfl, Nat.le_trans h.move.touch.size h1, h2, h3, by rw [HN.out]; exact h4, (h.move.trans h5).shrink fun b hb => .inr hb, ⟨h.grow.ext, h.grow.nodup, h2.used, fun n hn => (h6 n hn).trans (h.grow.other n hn), by have := h.grow.live; simp at this ⊢; omega⟩⟩
      · obtain ⟨rfl, h1, h2⟩ := hC.bad h0
        exact ⟨rfl, (h.move.trans h1).shrink fun _ f => f.elim, gone_of_grow h.grow h2⟩
end Go.Proofs.YtbkiahnljklhpaaDoor
