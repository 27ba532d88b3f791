/- TWO TAPES BESIDE ONE ANOTHER (no walk). -/
import Derived.Test.YtbkiahnljklhpaaDoorTapeSides
namespace Go.Proofs.YtbkiahnljklhpaaDoor
open Go.RowKit
open Seal
structure TSide (B g gl gt : Nat) (w : World) (s : Disk.St) (own : Nat → Nat) (rs : List (List Nat)) (P : List Nat) (pv : Value) : Prop where
  tp : Tape.Tp s P (Tape.stream rs)
  whole : Tape.Whole s P (Tape.stream rs)
  mem : TpMem w gt g P rs.length false pv
  free : Free B gl w own (TFoot gt pv)
theorem TSide.keep {B g gl gt : Nat} {w w' : World} {s s' : Disk.St} {own own' : Nat → Nat} {rs : List (List Nat)} {P : List Nat} {pv : Value} {F F' : Nat → Prop} (h : TSide B g gl gt w s own rs P pv)
    (hV : Move B gl w w' own own' F F') (hS : Disk.Same s s') (hd : ∀ b, TFoot gt pv b → ¬ F b) (hp : ∀ n ∈ P, s'.pages.getD n none = s.pages.getD n none) : TSide B g gl gt w' s' own' rs P pv := by
  refine ⟨h.tp.keep hS hp, h.whole.keep hS.page hp, h.mem.keep fun b hb => ?_, fun b hb => ?_⟩
  · obtain ⟨_, h2, h3, h4⟩ := h.free b hb
    exact hV.same h4 h2 h3 (hd b hb)
  · obtain ⟨h1, h2, h3, h4⟩ := h.free b hb
    exact ⟨h1, (hV.marks b h4).trans h2, h3, Nat.lt_of_lt_of_le h4 hV.touch.size⟩
/-- The first tape is made, the second's writer is full. -/
structure Mid (B g gl gt g2 : Nat) (w0 w : World) (s0 s : Disk.St) (own0 own : Nat → Nat) (L : Int × Int × Int) (rs qs : List (List Nat)) (m : Nat) (P Q : List Nat) (pv pv2 dv2 : Value) : Prop where
  sys : Sys B w g gl s own L
  same : Disk.Same s0 s
  ops : s.ops ≤ s0.ops + 10000000
  t : TSide B g gl gt w s own rs P pv
  b : WSide B g gl g2 w s own true qs m Q pv2 dv2
  apart : ∀ x, TFoot gt pv x → ¬ WFoot g2 pv2 dv2 x
  disj : ∀ n ∈ P, n ∉ Q
  live : Disk.live s.pages = P.length + Q.length
  move : Move B gl w0 w own0 own (fun _ => False) (fun x => TFoot gt pv x ∨ WFoot g2 pv2 dv2 x)
theorem Two.closeCall {B g gl g1 g2 : Nat} {w0 w : World} {s0 s : Disk.St} {own0 own : Nat → Nat} {L : Int × Int × Int} {rs qs : List (List Nat)} {m : Nat} {P Q : List Nat} {pv dv pv2 dv2 : Value} (h : Two B g gl g1 g2 w0 w s0 s own0 own L rs qs rs.length m P Q pv dv pv2 dv2)
    (hT : TwoOk s0 rs qs) (hm : m ≤ qs.length) :
    Calls Tryd.prog 32 #[.pointer (some ⟨g1, 0, none⟩)] w fun e w' => ∃ gt s', e = .returned (.tuple #[ptr gt, .int .i64 0]) ∧ Mid B g gl gt g2 w0 w' s0 s' own0 own (backL true s.page L) rs qs m P Q pv pv2 dv2 := by
  have hop := h.ops
  have h0 := hT.ops
  have hf1 := hT.few.1
  have hf2 := hT.few2.1
  refine (close_any B g gl g1 s own L true P (Tape.stream (rs.take rs.length)) rs.length pv dv w h.sys h.a.wr h.a.mem h.a.free h.a.tight (by omega)).mono ?_
  rintro e w' ⟨E, tv, s', rfl, hC⟩
  have hE : E = 0 := hC.calm (h.same.calm hT.calm)
  subst hE
  obtain ⟨gt, rfl, hgt, c1, c2, c3, c4, c5, c6⟩ := hC.ok rfl
  rw [List.take_length] at c1 c2
  have hQ : ∀ n ∈ Q, n ∉ P := fun n hn hp => h.disj n hp hn
  refine ⟨gt, s', rfl, hC.sys, h.same.trans hC.same, by have := hC.ops; omega, ⟨c1, c2, c3, (c4.shrink fun b hb => .inr hb).free⟩, h.b.keep c4 hC.same.page (fun b h1 h2 => h.apart b h2 h1) (fun n hn => c5 n (hQ n hn)), fun x h1 h2 => ?_, h.disj, by rw [c6]; exact h.live, ?_⟩
  · have h3 := (h.b.free x h2).2.2.2
    exact h.apart x (c4.foot x h3 (.inr h1)) h2
  · exact (h.move.trans (c4.widen h.b.free)).shrink fun b hb => by
      rcases hb with hb | hb
      · exact .inl (.inr hb)
      · exact .inr hb
/-- What was there ahead of w0, and is nobody's of the disk, is as it was. -/
structure Still (B gl : Nat) (w0 w : World) (own0 own : Nat → Nat) : Prop where
  below : Below B w0 w
  same : ∀ b, b < w0.heap.size → own0 b = 0 → b ≠ gl → w.heap[b]? = w0.heap[b]?
  marks : ∀ b, b < w0.heap.size → own b = own0 b
  size : w0.heap.size ≤ w.heap.size
theorem Still.move {B g gl : Nat} {w0 w w' : World} {s : Disk.St} {L : Int × Int × Int} {own0 own own' : Nat → Nat} {F F' : Nat → Prop} (h : Still B gl w0 w own0 own) (hS : Sys B w g gl s own L) (hB : B ≤ w0.heap.size) (hV : Move B gl w w' own own' F F') (hF : ∀ b, F b → w0.heap.size ≤ b) : Still B gl w0 w' own0 own' :=
  ⟨h.below.trans (hS.mbelow hV fun _ hb => Nat.le_trans hB (hF _ hb)), fun b hb h1 h2 => (hV.same (Nat.lt_of_lt_of_le hb h.size) ((h.marks b hb).trans h1) h2 (fun f => by have := hF b f; omega)).trans (h.same b hb h1 h2), fun b hb => (hV.marks b (Nat.lt_of_lt_of_le hb h.size)).trans (h.marks b hb), Nat.le_trans h.size hV.touch.size⟩
structure Both (B g gl gt gu : Nat) (w0 w : World) (s0 s : Disk.St) (own0 own : Nat → Nat) (L : Int × Int × Int) (rs qs : List (List Nat)) (P Q : List Nat) (pv pv2 : Value) : Prop where
  sys : Sys B w g gl s own L
  same : Disk.Same s0 s
  t : TSide B g gl gt w s own rs P pv
  u : TSide B g gl gu w s own qs Q pv2
  apart : ∀ x, TFoot gt pv x → ¬ TFoot gu pv2 x
  live : Disk.live s.pages = P.length + Q.length
  fresh : ∀ x, TFoot gt pv x ∨ TFoot gu pv2 x → w0.heap.size ≤ x
  still : Still B gl w0 w own0 own
theorem Mid.closeCall {B g gl gt g2 : Nat} {w0 w : World} {s0 s : Disk.St} {own0 own : Nat → Nat} {L0 L : Int × Int × Int} {rs qs : List (List Nat)} {P Q : List Nat} {pv pv2 dv2 : Value} (h : Mid B g gl gt g2 w0 w s0 s own0 own L rs qs qs.length P Q pv pv2 dv2)
    (hT : TwoOk s0 rs qs) (hS0 : Sys B w0 g gl s0 own0 L0) :
    Calls Tryd.prog 32 #[.pointer (some ⟨g2, 0, none⟩)] w fun e w' => ∃ gu s', e = .returned (.tuple #[ptr gu, .int .i64 0]) ∧ s'.ops ≤ 20000000 ∧ Both B g gl gt gu w0 w' s0 s' own0 own (backL true s.page L) rs qs P Q pv pv2 := by
  have hop := h.ops
  have h0 := hT.ops
  refine (close_any B g gl g2 s own L true Q (Tape.stream (qs.take qs.length)) qs.length pv2 dv2 w h.sys h.b.wr h.b.mem h.b.free h.b.tight (by omega)).mono ?_
  rintro e w' ⟨E, tv, s', rfl, hC⟩
  have hE : E = 0 := hC.calm (h.same.calm hT.calm)
  subst hE
  obtain ⟨gu, rfl, hgu, c1, c2, c3, c4, c5, c6⟩ := hC.ok rfl
  rw [List.take_length] at c1 c2
  have hP : ∀ n ∈ P, n ∉ Q := h.disj
  have hV := ((h.move.shrink (F'' := fun x => WFoot g2 pv2 dv2 x ∨ TFoot gt pv x) fun b hb => hb.symm).trans (c4.widen h.t.free))
  have hwe := h.sys.size
  refine ⟨gu, s', rfl, by have := hC.ops; omega, hC.sys, h.same.trans hC.same, h.t.keep c4 hC.same h.apart (fun n hn => c5 n (hP n hn)), ⟨c1, c2, c3, (c4.shrink fun b hb => .inr hb).free⟩, fun x h1 h2 => ?_, by rw [c6]; exact h.live, fun x hx => ?_, ?_⟩
  · have h3 := (h.t.free x h1).2.2.2
    exact h.apart x h1 (c4.foot x h3 (.inr h2))
  · rcases Nat.lt_or_ge x w0.heap.size with h1 | h1
    · exfalso
      refine (hV.foot x h1 ?_)
      rcases hx with hx | hx
      · exact .inr hx
      · exact .inl (.inr hx)
    · exact h1
  · exact ⟨hS0.mbelow hV (fun _ f => f.elim), fun _ hb h1 h2 => hV.same hb h1 h2 (fun f => f), hV.marks, hV.touch.size⟩
theorem Both.keep {B g gl gt gu : Nat} {w0 w w' : World} {s0 s s' : Disk.St} {own0 own : Nat → Nat} {L L' : Int × Int × Int} {rs qs : List (List Nat)} {P Q : List Nat} {pv pv2 : Value} {F F' : Nat → Prop} (h : Both B g gl gt gu w0 w s0 s own0 own L rs qs P Q pv pv2) (hB : B ≤ w0.heap.size)
    (hV : Move B gl w w' own own F F') (hF : ∀ b, F b → w0.heap.size ≤ b ∧ ¬ TFoot gt pv b ∧ ¬ TFoot gu pv2 b) (hS : Sys B w' g gl s' own L') (hs : Disk.Same s s') (hp : s'.pages = s.pages) : Both B g gl gt gu w0 w' s0 s' own0 own L' rs qs P Q pv pv2 :=
  ⟨hS, h.same.trans hs, h.t.keep hV hs (fun b h1 h2 => (hF b h2).2.1 h1) (fun _ _ => by rw [hp]), h.u.keep hV hs (fun b h1 h2 => (hF b h2).2.2 h1) (fun _ _ => by rw [hp]), h.apart, by rw [hp]; exact h.live, h.fresh, h.still.move h.sys hB hV fun b hb => (hF b hb).1⟩
theorem Still.rows {B gl : Nat} {w0 w : World} {own0 own : Nat → Nat} {a : Option Addr} {rs : List (List Nat)} (h : Still B gl w0 w own0 own) (hR : RowsIn w0 a rs fun b => own0 b = 0 ∧ b ≠ gl) : RowsIn w a rs fun b => b < w.heap.size :=
  hR.keep (fun b hb ho => h.same b hb ho.1 ho.2) fun _ hb _ => Nat.lt_of_lt_of_le hb h.size
/-- A reader of the first tape, k records on, beside both. -/
structure Rdx (B g gl gt gu gr : Nat) (w0 w : World) (s0 s : Disk.St) (own0 own : Nat → Nat) (L : Int × Int × Int) (rs qs : List (List Nat)) (k : Nat) (P Q : List Nat) (pv pv2 : Value) (j : Nat) (pa da : Option Addr) : Prop where
  both : Both B g gl gt gu w0 w s0 s own0 own L rs qs P Q pv pv2
  rdr : Rdr B w g gl gr s own true P (Tape.stream rs) (rs.drop k) j (Tape.stream (rs.take k)).length pa da
  apart : ∀ x, RFoot gr da x → w0.heap.size ≤ x ∧ ¬ TFoot gt pv x ∧ ¬ TFoot gu pv2 x
  ops : s.ops ≤ 20000000 + (Tape.stream (rs.take k)).length
theorem Both.openCall {B g gl gt gu : Nat} {w0 w : World} {s0 s : Disk.St} {own0 own : Nat → Nat} {L : Int × Int × Int} {rs qs : List (List Nat)} {P Q : List Nat} {pv pv2 : Value} (h : Both B g gl gt gu w0 w s0 s own0 own L rs qs P Q pv pv2) (hB : B ≤ w0.heap.size)
    (hL : L.2.1 = 0) (hp : s.page = 64) (ho : s.ops ≤ 20000000) :
    Calls Tryd.prog 33 #[.pointer (some ⟨gt, 0, none⟩), .pointer (some ⟨gl, 0, none⟩)] w fun e w' => ∃ gr pa L', e = .returned (ptr gr) ∧ L'.2.1 = 64 ∧ Rdx B g gl gt gu gr w0 w' s0 s own0 own L' rs qs 0 P Q pv pv2 0 pa none := by
  refine (topen_any B g gl gt s own L P (Tape.stream rs) rs false pv w h.sys h.t.mem h.t.free rfl).mono ?_
  rintro e w' ⟨gr, pa, rfl, _, hO⟩
  have hf : ∀ x, RFoot gr none x → w.heap.size ≤ x := fun x hx => by
    rcases hx with rfl | ⟨p, hp, _⟩
    · exact hO.fresh
    · simp at hp
  have ht : tkB L.2.1 s.page = true := by rw [hL, hp]; decide
  have hr := hO.rdr
  rw [ht] at hr
  refine ⟨gr, pa, _, rfl, ?_, h.keep hB hO.move (fun _ f => f.elim) hO.sys (Disk.Same.refl s) rfl, by simpa [Tape.stream] using hr, fun x hx => ⟨Nat.le_trans h.still.size (hf x hx), fun f => ?_, fun f => ?_⟩, by omega⟩
  · show tkH L.2.1 s.page = 64
    rw [hL, hp]; decide
  · have := (h.t.free x f).2.2.2; have := hf x hx; omega
  · have := (h.u.free x f).2.2.2; have := hf x hx; omega
theorem Rdx.below {B g gl gt gu gr : Nat} {w0 w w' : World} {s0 s : Disk.St} {own0 own : Nat → Nat} {L : Int × Int × Int} {rs qs : List (List Nat)} {k : Nat} {P Q : List Nat} {pv pv2 : Value} {j : Nat} {pa da : Option Addr} (h : Rdx B g gl gt gu gr w0 w s0 s own0 own L rs qs k P Q pv pv2 j pa da) (hB : B ≤ w0.heap.size) (hb : Below w.heap.size w w') : Rdx B g gl gt gu gr w0 w' s0 s own0 own L rs qs k P Q pv pv2 j pa da :=
  ⟨h.both.keep hB (Move.of_below (F := fun _ => False) (fun _ f => f.elim) hb) (fun _ f => f.elim) (h.both.sys.below hb) (Disk.Same.refl s) rfl, h.rdr.keep hb.size (fun b _ hlt => hb.block b hlt), h.apart, h.ops⟩
theorem Rdx.nextCall {B g gl gt gu gr : Nat} {w0 w : World} {s0 s : Disk.St} {own0 own : Nat → Nat} {L : Int × Int × Int} {rs qs : List (List Nat)} {k : Nat} {P Q : List Nat} {pv pv2 : Value} {j : Nat} {pa da : Option Addr} (h : Rdx B g gl gt gu gr w0 w s0 s own0 own L rs qs k P Q pv pv2 j pa da) (hB : B ≤ w0.heap.size)
    (hT : TwoOk s0 rs qs) (hk : k < rs.length) :
    Calls Tryd.prog 34 #[.pointer (some ⟨gr, 0, none⟩)] w fun e w' => ∃ ra rc s' j' pa' da', e = .returned (.tuple #[.slice ra (rs.getD k []).length rc, .bool true, .int .i64 0]) ∧ (rs.getD k []).length ≤ rc ∧ SliceIs w' ra (rs.getD k []) ∧ Rdx B g gl gt gu gr w0 w' s0 s' own0 own L rs qs (k + 1) P Q pv pv2 j' pa' da' := by
  have hdr : rs.drop k = rs.getD k [] :: rs.drop (k + 1) := by
    rw [List.getD_eq_getElem?_getD, List.getElem?_eq_getElem hk]
    exact List.drop_eq_getElem_cons hk
  have hR := h.rdr
  rw [hdr] at hR
  have hle := few_len hT.few k hk
  have hst := stream_take_le rs (k + 1)
  have es : (Tape.stream (rs.take (k + 1))).length = (Tape.stream (rs.take k)).length + (4 + (rs.getD k []).length) := by rw [take_getD rs hk, Tape.stream_snoc, List.length_append, Tape.length_frame]
  have hfs := few_stream hT.few
  have hop := h.ops
  have hf1 := hT.few.1
  refine (next_any B g gl gr s own L true P (Tape.stream rs) (rs.getD k []) (rs.drop (k + 1)) j _ pa da w h.both.sys h.both.t.tp hR (by omega) (by rw [List.length_drop]; omega) (by omega)).mono ?_
  rintro e w' ⟨E, v, s', L', rfl, hN⟩
  have hE : E = 0 := hN.good (h.both.same.calm hT.calm) h.both.t.whole
  subst hE
  obtain ⟨rfl, hrow, j', pa', da', hj, hR', hV, hvf, _⟩ := hN.ok rfl
  obtain ⟨ra, rc, rfl, hrc, _, hsl⟩ := slice_of_row (ownsRow_base (Nat.zero_le _) hrow)
  refine ⟨ra, rc, s', j', pa', da', rfl, hrc, hsl, h.both.keep hB hV h.apart hN.sys hN.same hN.pages, by rw [es]; exact hR', fun x hx => ?_, by rw [es]; have := hN.ops; omega⟩
  rcases Nat.lt_or_ge x w.heap.size with h1 | h1
  · exact h.apart x (hV.foot x h1 hx)
  · refine ⟨Nat.le_trans h.both.still.size h1, fun f => ?_, fun f => ?_⟩
    · have := (h.both.t.free x f).2.2.2; omega
    · have := (h.both.u.free x f).2.2.2; omega
theorem Rdx.closeCall {B g gl gt gu gr : Nat} {w0 w : World} {s0 s : Disk.St} {own0 own : Nat → Nat} {L : Int × Int × Int} {rs qs : List (List Nat)} {k : Nat} {P Q : List Nat} {pv pv2 : Value} {j : Nat} {pa da : Option Addr} (h : Rdx B g gl gt gu gr w0 w s0 s own0 own L rs qs k P Q pv pv2 j pa da) (hB : B ≤ w0.heap.size)
    (hL : L.2.1 = 64) (hp : s.page = 64) :
    Calls Tryd.prog 51 #[.pointer (some ⟨gr, 0, none⟩)] w fun e w' => e = .returned (.tuple #[]) ∧ ∃ L', L'.2.1 = 0 ∧ Both B g gl gt gu w0 w' s0 s own0 own L' rs qs P Q pv pv2 := by
  obtain ⟨pc, dc, hM⟩ := h.rdr.mem
  have hgr := h.rdr.free gr (.inl rfl)
  refine (rclose_any gr gl s.page true _ _ _ _ _ L w hM.obj h.both.sys.led h.both.sys.fair hgr.2.2.1).mono ?_
  rintro e w' ⟨rfl, _, hl, hT⟩
  have hT2 : Touch (fun x => x = gl ∨ RFoot gr da x) w w' := hT.mono fun _ _ h => h.elim .inl (fun h => .inr (.inl h))
  have hS : Sys B w' g gl s own (backL true s.page L) := h.both.sys.led' hl (backL_fair h.both.sys.fair) hT2 (fun b hb2 => ⟨(h.rdr.free b hb2).1, (h.rdr.free b hb2).2.1⟩)
  have hV : Move B gl w w' own own (RFoot gr da) (fun _ => False) := ⟨hT.mono fun b _ hb => by
    rcases hb with hb | hb
    · exact .inr (.inl hb)
    · exact .inr (.inr (.inl hb)), fun _ _ => rfl, fun _ _ f => f.elim, fun _ f => f.elim⟩
  refine ⟨rfl, _, ?_, h.both.keep hB hV h.apart hS (Disk.Same.refl s) rfl⟩
  show gvH L.2.1 s.page = 0
  rw [hL, hp]; decide
theorem Both.swap {B g gl gt gu : Nat} {w0 w : World} {s0 s : Disk.St} {own0 own : Nat → Nat} {L : Int × Int × Int} {rs qs : List (List Nat)} {P Q : List Nat} {pv pv2 : Value} (h : Both B g gl gt gu w0 w s0 s own0 own L rs qs P Q pv pv2) : Both B g gl gu gt w0 w s0 s own0 own L qs rs Q P pv2 pv :=
  ⟨h.sys, h.same, h.u, h.t, fun x h1 h2 => h.apart x h2 h1, by have := h.live; omega, fun x hx => h.fresh x hx.symm, h.still⟩
theorem Both.below {B g gl gt gu : Nat} {w0 w w' : World} {s0 s : Disk.St} {own0 own : Nat → Nat} {L : Int × Int × Int} {rs qs : List (List Nat)} {P Q : List Nat} {pv pv2 : Value} (h : Both B g gl gt gu w0 w s0 s own0 own L rs qs P Q pv pv2) (hB : B ≤ w0.heap.size) (hb : Below w.heap.size w w') : Both B g gl gt gu w0 w' s0 s own0 own L rs qs P Q pv pv2 :=
  h.keep hB (Move.of_below (F := fun _ => False) (fun _ f => f.elim) hb) (fun _ f => f.elim) (h.sys.below hb) (Disk.Same.refl s) rfl
theorem Both.readCall {B g gl gt gu : Nat} {w0 w : World} {s0 s : Disk.St} {own0 own : Nat → Nat} {L : Int × Int × Int} {rs qs : List (List Nat)} {P Q : List Nat} {pv pv2 : Value} (h : Both B g gl gt gu w0 w s0 s own0 own L rs qs P Q pv pv2) (hB : B ≤ w0.heap.size)
    (hT : TwoOk s0 rs qs) (hL : L.2.1 = 0) (ho : s.ops ≤ 1000000000) :
    Calls Tryd.prog 20 #[.pointer (some ⟨gt, 0, none⟩), .pointer (some ⟨gl, 0, none⟩)] w fun e w' => ∃ va vc s' L', e = .returned (.tuple #[.slice va rs.length vc, .int .i64 0]) ∧ rs.length ≤ vc ∧ RowsIn w' va rs (fun b => own b = 0 ∧ b ≠ gl) ∧
      s'.ops ≤ s.ops + 10400 ∧ L'.2.1 = 0 ∧ Both B g gl gt gu w0 w' s0 s' own0 own L' rs qs P Q pv pv2 ∧ (∀ b, b < w.heap.size → own b = 0 → b ≠ gl → w'.heap[b]? = w.heap[b]?) := by
  have hfs := few_stream hT.few
  have hf1 := hT.few.1
  have hp : s.page = 64 := h.same.page.trans hT.page
  refine (readL_any B g gl gt s own L P rs false pv w h.sys h.t.mem h.t.free h.t.tp (few_len hT.few) (by omega) (by omega)).mono ?_
  rintro e w' ⟨E, k, v, vs, s', rfl, hR⟩
  have hE : E = 0 := hR.good (h.same.calm hT.calm) h.t.whole
  subst hE
  have hk : k = rs.length := hR.all rfl
  subst hk
  have hout := hR.out
  rw [List.take_length] at hout
  obtain ⟨va, vc, rfl, hvc, _, hrows⟩ := hout.rows
  have hgl := h.sys.led.lt
  refine ⟨va, vc, s', _, rfl, hvc, hrows.keep (fun _ _ _ => rfl) (fun b _ hb => ⟨h.sys.disk.fresh b hb.1, by have := hb.1; omega⟩), by have := hR.ops; omega, ?_, h.keep hB hR.move (fun _ f => f.elim) hR.sys hR.same hR.pages, fun b hb h1 h2 => hR.move.same hb h1 h2 (fun f => f)⟩
  rw [hL, hp, show tkB 0 ((64 : Nat) : Int) = true from by decide]
  show gvH (tkH 0 ((64 : Nat) : Int)) 64 = 0
  decide
end Go.Proofs.YtbkiahnljklhpaaDoor
