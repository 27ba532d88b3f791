/- TWO WRITERS BESIDE ONE ANOTHER (no walk). -/
import Derived.Test.YtbkiahnljklhpaaDoorTapeCommon
namespace Go.Proofs.YtbkiahnljklhpaaDoor
open Go.RowKit
open Seal
/-- A writer of the first k of its records. -/
structure WSide (B g gl gw : Nat) (w : World) (s : Disk.St) (own : Nat → Nat) (hb : Bool) (rs : List (List Nat)) (k : Nat) (P : List Nat) (pv dv : Value) : Prop where
  wr : Tape.Wr s P (Tape.stream (rs.take k))
  tight : P = [] ∨ Tape.tail_ s P (Tape.stream (rs.take k)) ≠ []
  mem : WrMem w gw g gl s.page hb P (Tape.tail_ s P (Tape.stream (rs.take k))) k pv dv
  free : Free B gl w own (WFoot gw pv dv)
theorem tail_same {s s' : Disk.St} (h : s'.page = s.page) (P S : List Nat) : Tape.tail_ s' P S = Tape.tail_ s P S := by unfold Tape.tail_; rw [h]
theorem WSide.keep {B g gl gw : Nat} {w w' : World} {s s' : Disk.St} {own own' : Nat → Nat} {hb : Bool} {rs : List (List Nat)} {k : Nat} {P : List Nat} {pv dv : Value} {F F' : Nat → Prop} (h : WSide B g gl gw w s own hb rs k P pv dv)
    (hV : Move B gl w w' own own' F F') (hS : s'.page = s.page) (hd : ∀ b, WFoot gw pv dv b → ¬ F b) (hp : ∀ n ∈ P, s'.pages.getD n none = s.pages.getD n none) : WSide B g gl gw w' s' own' hb rs k P pv dv := by
  refine ⟨h.wr.keep hS hp, by rw [tail_same hS]; exact h.tight, ?_, fun b hb => ?_⟩
  · rw [tail_same hS, hS]
    exact h.mem.keep fun b hb => by
      obtain ⟨_, h2, h3, h4⟩ := h.free b hb
      exact hV.same h4 h2 h3 (hd b hb)
  · obtain ⟨h1, h2, h3, h4⟩ := h.free b hb
    exact ⟨h1, (hV.marks b h4).trans h2, h3, Nat.lt_of_lt_of_le h4 hV.touch.size⟩
/-- What is beside an operation's blocks, and free, stays so. -/
theorem Move.widen {B gl : Nat} {w w' : World} {own own' : Nat → Nat} {F F' G : Nat → Prop} (h : Move B gl w w' own own' F F') (hG : Free B gl w own G) : Move B gl w w' own own' (fun b => F b ∨ G b) (fun b => F' b ∨ G b) :=
  ⟨h.touch.mono fun b _ hb => by
      rcases hb with hb | hb | hb
      · exact .inl hb
      · exact .inr (.inl hb)
      · exact .inr (.inr (.inl hb)), h.marks, fun b hlt hb => by
      rcases hb with hb | hb
      · exact .inl (h.foot b hlt hb)
      · exact .inr hb, fun b hb => by
      rcases hb with hb | hb
      · exact h.free b hb
      · obtain ⟨h1, h2, h3, h4⟩ := hG b hb
        exact ⟨h1, (h.marks b h4).trans h2, h3, Nat.lt_of_lt_of_le h4 h.touch.size⟩⟩
theorem Move.conv1 {B gl : Nat} {w w' : World} {own own' : Nat → Nat} {F' G : Nat → Prop} (h : Move B gl w w' own own' (fun b => False ∨ G b) F') : Move B gl w w' own own' G F' := by
  have e : (fun b => False ∨ G b) = G := funext fun b => propext (by simp)
  rw [e] at h; exact h
theorem Move.swap {B gl : Nat} {w w' : World} {own own' : Nat → Nat} {F F' G G' : Nat → Prop} (h : Move B gl w w' own own' (fun b => F b ∨ G b) (fun b => F' b ∨ G' b)) : Move B gl w w' own own' (fun b => G b ∨ F b) (fun b => G' b ∨ F' b) := by
  have e1 : (fun b => F b ∨ G b) = (fun b => G b ∨ F b) := funext fun b => propext Or.comm
  have e2 : (fun b => F' b ∨ G' b) = (fun b => G' b ∨ F' b) := funext fun b => propext Or.comm
  rw [← e1, ← e2]; exact h
/-- Two writers, k and m records on. -/
structure Two (B g gl g1 g2 : Nat) (w0 w : World) (s0 s : Disk.St) (own0 own : Nat → Nat) (L : Int × Int × Int) (rs qs : List (List Nat)) (k m : Nat) (P Q : List Nat) (pv dv pv2 dv2 : Value) : Prop where
  sys : Sys B w g gl s own L
  same : Disk.Same s0 s
  ops : s.ops ≤ s0.ops + 40000 * (k + m)
  a : WSide B g gl g1 w s own true rs k P pv dv
  b : WSide B g gl g2 w s own true qs m Q pv2 dv2
  apart : ∀ x, WFoot g1 pv dv x → ¬ WFoot g2 pv2 dv2 x
  disj : ∀ n ∈ P, n ∉ Q
  live : Disk.live s.pages = P.length + Q.length
  move : Move B gl w0 w own0 own (fun _ => False) (fun x => WFoot g1 pv dv x ∨ WFoot g2 pv2 dv2 x)
theorem Two.swap {B g gl g1 g2 : Nat} {w0 w : World} {s0 s : Disk.St} {own0 own : Nat → Nat} {L : Int × Int × Int} {rs qs : List (List Nat)} {k m : Nat} {P Q : List Nat} {pv dv pv2 dv2 : Value} (h : Two B g gl g1 g2 w0 w s0 s own0 own L rs qs k m P Q pv dv pv2 dv2) :
    Two B g gl g2 g1 w0 w s0 s own0 own L qs rs m k Q P pv2 dv2 pv dv := by
  refine ⟨h.sys, h.same, by have := h.ops; omega, h.b, h.a, fun x h1 h2 => h.apart x h2 h1, fun n h1 h2 => h.disj n h2 h1, by have := h.live; omega, ?_⟩
  have e2 : (fun x => WFoot g2 pv2 dv2 x ∨ WFoot g1 pv dv x) = (fun x => WFoot g1 pv dv x ∨ WFoot g2 pv2 dv2 x) := funext fun b => propext Or.comm
  rw [e2]; exact h.move
/-- One more record of the first. -/
theorem Two.add {B g gl g1 g2 : Nat} {w0 w : World} {s0 s : Disk.St} {own0 own : Nat → Nat} {L : Int × Int × Int} {rs qs : List (List Nat)} {k m : Nat} {P Q : List Nat} {pv dv pv2 dv2 : Value} (h : Two B g gl g1 g2 w0 w s0 s own0 own L rs qs k m P Q pv dv pv2 dv2)
    (hk : k < rs.length) (hlen : (rs.getD k []).length ≤ 11000) {w' : World} {s' : Disk.St} {own' : Nat → Nat} {L' : Int × Int × Int} (hA : AddPost B g gl g1 s own L true P (Tape.stream (rs.take k)) (rs.getD k []) k pv dv w 0 w' s' own' L') :
    L' = L ∧ ∃ P' pv' dv', Two B g gl g1 g2 w0 w' s0 s' own0 own' L rs qs (k + 1) m P' Q pv' dv' pv2 dv2 := by
  obtain ⟨rfl, P', pv', dv', ha1, ha2, ha3, ha4, ha5⟩ := hA.ok rfl
  have es : Tape.stream (rs.take (k + 1)) = Tape.stream (rs.take k) ++ Tape.frame (rs.getD k []) := by rw [take_getD rs hk, Tape.stream_snoc]
  have hQ : ∀ n ∈ Q, n ∉ P' := fun n hn hp => by
    obtain ⟨R, e, hR⟩ := ha5.ext
    rw [e] at hp
    rcases List.mem_append.1 hp with hp | hp
    · exact h.disj n hp hn
    · have := h.b.wr.used n hn
      rw [hR n hp] at this
      exact absurd this (by simp)
  have hw := h.sys.size
  refine ⟨rfl, P', pv', dv', hA.sys, h.same.trans hA.same, by have := h.ops; have := hA.ops; omega, ⟨by rw [es]; exact ha1, .inr (by rw [es]; exact ha2), by rw [es]; exact ha3, ha4.free⟩, h.b.keep ha4 hA.same.page (fun b h1 h2 => h.apart b h2 h1) (fun n hn => ha5.other n (hQ n hn)), fun x h1 h2 => ?_, fun n h1 h2 => hQ n h2 h1, by have := ha5.live; have := h.live; omega, h.move.trans (ha4.widen h.b.free)⟩
  have h3 := (h.b.free x h2).2.2.2
  exact h.apart x (ha4.foot x h3 h1) h2
theorem Two.start {B g gl g1 g2 : Nat} {w0 w1 w2 : World} {s : Disk.St} {own : Nat → Nat} {L : Int × Int × Int} {rs qs : List (List Nat)} (h1 : CreatePost B g gl s own L w0 g1 w1) (h2 : CreatePost B g gl s own (L.1, tkH L.2.1 s.page, tkM L.2.1 L.2.2 s.page) w1 g2 w2)
    (t1 : tkB L.2.1 s.page = true) (t2 : tkB (tkH L.2.1 s.page) s.page = true) (hlive : Disk.live s.pages = 0) :
    Two B g gl g1 g2 w0 w2 s s own own (L.1, tkH (tkH L.2.1 s.page) s.page, tkM (tkH L.2.1 s.page) (tkM L.2.1 L.2.2 s.page) s.page) rs qs 0 0 [] [] (.slice none 0 0) (.slice none 0 0) (.slice none 0 0) (.slice none 0 0) := by
  have hf : ∀ gw b, WFoot gw (.slice none 0 0) (.slice none 0 0) b → b = gw := fun gw b hb => by
    rcases hb with h | h | h
    · exact h
    · simp [Value.ownBlock] at h
    · simp [Value.ownBlock] at h
  have hw : Tape.Wr s [] (Tape.stream ([] : List (List Nat))) := by simpa [Tape.stream] using Tape.Wr.empty s
  have hm : ∀ {w : World} {gw : Nat}, WrMem w gw g gl s.page true [] [] 0 (.slice none 0 0) (.slice none 0 0) → WrMem w gw g gl s.page true [] (Tape.tail_ s [] (Tape.stream ([] : List (List Nat)))) 0 (.slice none 0 0) (.slice none 0 0) := fun h => by simpa [Tape.tail_, Tape.stream] using h
  have m1 := h1.mem; rw [t1] at m1
  have m2 := h2.mem
  have t2' : tkB ((L.1, tkH L.2.1 (s.page : Int), tkM L.2.1 L.2.2 (s.page : Int)) : Int × Int × Int).2.1 s.page = true := t2
  rw [t2'] at m2
  have a1 : WSide B g gl g1 w1 s own true rs 0 [] (.slice none 0 0) (.slice none 0 0) := ⟨by rw [List.take_zero]; exact hw, .inl rfl, by rw [List.take_zero]; exact hm m1, fun b hb => h1.move.free b (hf _ b hb)⟩
  have a2 : WSide B g gl g2 w2 s own true qs 0 [] (.slice none 0 0) (.slice none 0 0) := ⟨by rw [List.take_zero]; exact hw, .inl rfl, by rw [List.take_zero]; exact hm m2, fun b hb => h2.move.free b (hf _ b hb)⟩
  refine ⟨h2.sys, Disk.Same.refl s, by omega, a1.keep h2.move rfl (fun _ _ f => f) (fun _ _ => rfl), a2, fun x hx hy => ?_, fun n hn => by simp at hn, by simpa using hlive, ?_⟩
  · have e1 := hf _ x hx
    have e2 := hf _ x hy
    have h3 := (h1.move.free g1 rfl).2.2.2
    have h4 := h2.fresh
    omega
  · have hv := h1.move.trans ((h2.move.widen (G := fun b => b = g1) h1.move.free).conv1)
    exact hv.shrink fun b hb => by
      rcases hb with hb | hb
      · exact .inr (hf _ b hb)
      · exact .inl (hf _ b hb)
/-- What is known of the two when they are begun. -/
structure TwoOk (s0 : Disk.St) (rs qs : List (List Nat)) : Prop where
  page : s0.page = 64
  most : s0.most = 500
  ops : s0.ops = 0
  calm : Disk.Calm s0
  few : rs.length ≤ 100 ∧ total rs ≤ 10000
  few2 : qs.length ≤ 100 ∧ total qs ≤ 10000
theorem TwoOk.swap {s0 : Disk.St} {rs qs : List (List Nat)} (h : TwoOk s0 rs qs) : TwoOk s0 qs rs := ⟨h.page, h.most, h.ops, h.calm, h.few2, h.few⟩
theorem WSide.few {B g gl gw : Nat} {w : World} {s : Disk.St} {own : Nat → Nat} {hb : Bool} {rs : List (List Nat)} {k : Nat} {P : List Nat} {pv dv : Value} (h : WSide B g gl gw w s own hb rs k P pv dv) (hp : s.page = 64) (hf : rs.length ≤ 100 ∧ total rs ≤ 10000) : P.length ≤ 193 := by
  have h1 := h.wr.lo
  have h2 := stream_take_le rs k
  have h3 := few_stream hf
  rw [hp] at h1
  omega
theorem Two.addCall {B g gl g1 g2 : Nat} {w0 w : World} {s0 s : Disk.St} {own0 own : Nat → Nat} {L : Int × Int × Int} {rs qs : List (List Nat)} {k m : Nat} {P Q : List Nat} {pv dv pv2 dv2 : Value} (h : Two B g gl g1 g2 w0 w s0 s own0 own L rs qs k m P Q pv dv pv2 dv2)
    (hT : TwoOk s0 rs qs) (hk : k < rs.length) (hm : m ≤ qs.length) {a : Option Addr} (hR : RowsIn w0 a rs fun b => own0 b = 0 ∧ b ≠ gl) :
    ∃ b off ai ci, a = some ⟨b, off, none⟩ ∧ w.cell? ⟨b, off + k, none⟩ = some (.slice ai (rs.getD k []).length ci) ∧
      Calls Tryd.prog 31 #[.pointer (some ⟨g1, 0, none⟩), .slice ai (rs.getD k []).length ci] w fun e w' => e = .returned (.int .i64 0) ∧ ∃ s' own' P' pv' dv', Two B g gl g1 g2 w0 w' s0 s' own0 own' L rs qs (k + 1) m P' Q pv' dv' pv2 dv2 := by
  obtain ⟨b, off, ai, ci, e, h1, h2, h3, h4, h5, h6⟩ := hR.at_ (i := k) hk
  subst e
  have hbOk : own0 b = 0 ∧ b ≠ gl := by
    rcases hR with e | ⟨b2, o2, e, hb2, _⟩
    · rw [e] at hk; simp at hk
    · simp only [Option.some.injEq, Addr.mk.injEq, and_true] at e
      rw [e.1]; exact hb2
  have hcell : w.cell? ⟨b, off + k, none⟩ = some (.slice ai (rs.getD k []).length ci) := (World.cell?_of_block (a := ⟨b, off + k, none⟩) (h.move.same (World.block_lt_of_cell? _ _ h1) hbOk.1 hbOk.2 (fun f => f))).trans h1
  have hsl : SliceIs w ai (rs.getD k []) := sliceIs_move h4 (fun hne p hp => ⟨(h6 hne p hp).1, (h6 hne p hp).2, fun f => f⟩) h.move
  have hel : rs.getD k [] ≠ [] → Else ai gl own (WFoot g1 pv dv) := fun hne p hp => by
    obtain ⟨e1, e2, e3⟩ := else_move h4 (fun hne p hp => ⟨(h6 hne p hp).1, (h6 hne p hp).2, fun f => f⟩) h.move hne p hp
    exact ⟨e1, e2, fun f => e3 (.inl f)⟩
  have hle := few_len hT.few k hk
  have hle2 := len_le_total (rs := rs) hk
  have hst := stream_take_le rs (k + 1)
  rw [take_getD rs hk, Tape.stream_snoc, List.length_append, Tape.length_frame] at hst
  have hfs := few_stream hT.few
  have hpg : s.page = 64 := h.same.page.trans hT.page
  have hop := h.ops
  have h0 := hT.ops
  have hf1 := hT.few.1
  have hf2 := hT.few2.1
  refine ⟨b, off, ai, ci, rfl, hcell, (add_any B g gl g1 s own L true P (Tape.stream (rs.take k)) (rs.getD k []) k pv dv ai _ ci w h.sys h.a.wr h.a.mem h.a.free h.a.tight rfl h2 h3 h5 hsl hel hle (by omega) (by omega)).mono ?_⟩
  rintro e w' ⟨E, s', own', L', rfl, hA⟩
  have hE : E = 0 := hA.calm (h.same.calm hT.calm) (by
    have h7 := h.live
    have h8 := h.b.few hpg hT.few2
    have h9 : s.most = 500 := h.same.most.trans hT.most
    have h10 := need_few (room := s.page - 10) (n := (Tape.stream (rs.take k)).length + (4 + (rs.getD k []).length)) (by omega) (by omega)
    omega)
  subst hE
  obtain ⟨rfl, P', pv', dv', h7⟩ := h.add hk (by have := hT.few.2; omega) hA
  exact ⟨rfl, s', own', P', pv', dv', h7⟩
end Go.Proofs.YtbkiahnljklhpaaDoor
