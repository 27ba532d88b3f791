/- THE WALK OF Reader's read. -/
import Derived.Test.YtbkiahnljklhpaaDoorTapeTurnR
import Derived.Deep.QuietTactic
import Derived.BigQuiet
namespace Go.Proofs.YtbkiahnljklhpaaDoor
open Go.RowKit
open Seal
/-- The data at hand: j pages were read, p bytes brought. -/
def atHand (s : Disk.St) (S : List Nat) (j p : Nat) : List Nat := (S.take (j * (s.page - 10))).drop p
theorem length_atHand (s : Disk.St) (S : List Nat) (j p : Nat) : (atHand s S j p).length = min (j * (s.page - 10)) S.length - p := by unfold atHand; simp
theorem atHand_take (s : Disk.St) (S : List Nat) (j p m : Nat) (h : m ≤ (atHand s S j p).length) : (atHand s S j p).take m = (S.drop p).take m := by
  rw [length_atHand] at h
  unfold atHand
  rw [List.drop_take, List.take_take, Nat.min_eq_left (by omega)]
theorem atHand_drop (s : Disk.St) (S : List Nat) (j p m : Nat) : (atHand s S j p).drop m = atHand s S j (p + m) := by unfold atHand; rw [List.drop_drop]
theorem drop_part (S : List Nat) (p k m : Nat) : (S.drop p).take (k + m) = (S.drop p).take k ++ (S.drop (p + k)).take m := by rw [List.take_add, List.drop_drop]
theorem atHand_page (s : Disk.St) (S : List Nat) (j : Nat) : atHand s S (j + 1) (j * (s.page - 10)) = Tape.chunk (s.page - 10) S j := by
  unfold atHand Tape.chunk
  rw [List.drop_take]
  congr 1
  rw [Nat.succ_mul]; omega
/-- What a round of read keeps: k bytes are brought. -/
structure ReadInv (B g gl gr : Nat) (s : Disk.St) (own : Nat → Nat) (L : Int × Int × Int) (hb : Bool) (P S : List Nat) (j p left : Nat) (pa da : Option Addr) (w : World) (k o : Nat) (v : Value) (w' : World) (j' : Nat) (s' : Disk.St) (pa' : Option Addr) (pc' : Nat) (da' : Option Addr) (dc' : Nat) : Prop where
  sys : Sys B w' g gl s' own L
  same : Disk.Same s s'
  pages : s'.pages = s.pages
  ops : s'.ops ≤ s.ops + o
  mem : RdMem w' gr g gl s.page hb (P.drop j') (atHand s S j' (p + k)) left pa' pc' da' dc'
  move : Move B gl w w' own own (RFoot gr da) (RFoot gr da')
  else_ : Else pa' gl own (RFoot gr da')
  from_ : ∀ q, pa' = some q → ∃ q', pa = some q' ∧ q.block = q'.block
  row : w'.ownsRow w.heap.size 5 1 v k (u8s ((S.drop p).take k))
  apart : ∀ b q, v.ownBlock = some b → da' = some q → q.block ≠ b
  lo : j ≤ j'
  hi : j' ≤ P.length
  in_ : p + k ≤ min (j' * (s.page - 10)) S.length
  good : ∀ i, j ≤ i → i < j' → Tape.Good s P S i
/-- What a read leaves. -/
structure ReadPost (B g gl gr : Nat) (s : Disk.St) (own : Nat → Nat) (L : Int × Int × Int) (hb : Bool) (P S : List Nat) (j p n left : Nat) (pa da : Option Addr) (w : World) (E : Nat) (v : Value) (w' : World) (s' : Disk.St) (da' : Option Addr) : Prop where
  sys : Sys B w' g gl s' own L
  same : Disk.Same s s'
  pages : s'.pages = s.pages
  ops : s'.ops ≤ s.ops + n
  any : RdAny w' gr g gl s.page hb left
  move : Move B gl w w' own own (RFoot gr da) (RFoot gr da')
  err : E = 0 ∨ E = 16 ∨ E = 18
  ok : E = 0 → ∃ j' pa' pc' dc', ReadInv B g gl gr s own L hb P S j p left pa da w n n v w' j' s' pa' pc' da' dc'
  bad : E ≠ 0 → v = .slice none 0 0
  calm : Disk.Calm s → E ≠ 16
  good : Disk.Calm s → (∀ i, j ≤ i → i < Tape.need (s.page - 10) (p + n) → Tape.Good s P S i) → E = 0
def ReadEnd (B g gl gr : Nat) (s : Disk.St) (own : Nat → Nat) (L : Int × Int × Int) (hb : Bool) (P S : List Nat) (j p n left : Nat) (pa da : Option Addr) (w : World) (e : Ending) (w' : World) : Prop :=
  ∃ (E : Nat) (v : Value) (s' : Disk.St) (da' : Option Addr), e = .returned (.tuple #[v, .int .i64 (E : Int)]) ∧ ReadPost B g gl gr s own L hb P S j p n left pa da w E v w' s' da'
theorem ReadInv.j_lt {B g gl gr : Nat} {s : Disk.St} {own : Nat → Nat} {L : Int × Int × Int} {hb : Bool} {P S : List Nat} {j p left : Nat} {pa da : Option Addr} {w : World} {k o : Nat} {v : Value} {w' : World} {j' : Nat} {s' : Disk.St} {pa' : Option Addr} {pc' : Nat} {da' : Option Addr} {dc' : Nat}
    (h : ReadInv B g gl gr s own L hb P S j p left pa da w k o v w' j' s' pa' pc' da' dc') (hT : Tape.Tp s P S) (h0 : 10 < s.page) (hD : (atHand s S j' (p + k)).length = 0) (hS : p + k < S.length) : j' < P.length ∧ p + k = j' * (s.page - 10) := by
  rw [length_atHand] at hD
  have h1 := h.in_
  have h2 : p + k = j' * (s.page - 10) := by omega
  refine ⟨?_, h2⟩
  rcases Nat.lt_or_ge j' P.length with h3 | h3
  · exact h3
  · have h4 : j' = P.length := by have := h.hi; omega
    have h5 := Tape.need_lo (room := s.page - 10) (n := S.length) (by omega)
    rw [← hT.len, ← h4] at h5
    omega
theorem RdMem.keep {w w' : World} {gr g gl page : Nat} {hb : Bool} {R D : List Nat} {left : Nat} {pa : Option Addr} {pc : Nat} {da : Option Addr} {dc : Nat} (h : RdMem w gr g gl page hb R D left pa pc da dc) (k : ∀ b, RFoot gr da b ∨ (∃ q, pa = some q ∧ q.block = b) → b < w.heap.size → w'.heap[b]? = w.heap[b]?) : RdMem w' gr g gl page hb R D left pa pc da dc := by
  refine ⟨h.obj.same (k gr (.inl (.inl rfl)) h.obj.lt), ?_, ?_, h.oct, h.pcap, h.dcap, h.dgr⟩
  · rcases h.rows with e | ⟨b, off, e, h2⟩
    · exact .inl e
    · exact .inr ⟨b, off, e, fun i hi => (World.cell?_of_block (a := ⟨b, off + i, none⟩) (k b (.inr ⟨_, e, rfl⟩) (World.block_lt_of_cell? w _ (h2 i hi)))).trans (h2 i hi)⟩
  · rcases h.data with e | ⟨b, off, e, h2⟩
    · exact .inl e
    · exact .inr ⟨b, off, e, fun i hi => (World.cell?_of_block (a := ⟨b, off + i, none⟩) (k b (.inl (.inr ⟨_, e, rfl⟩)) (World.block_lt_of_cell? w _ (h2 i hi)))).trans (h2 i hi)⟩
theorem RdMem.below {w w' : World} {gr g gl page : Nat} {hb : Bool} {R D : List Nat} {left : Nat} {pa : Option Addr} {pc : Nat} {da : Option Addr} {dc : Nat} (h : RdMem w gr g gl page hb R D left pa pc da dc) (k : Below w.heap.size w w') : RdMem w' gr g gl page hb R D left pa pc da dc := h.keep fun b _ hb => k.block b hb
theorem row_len {w : World} {base : Nat} {e : TypeId} {size : Nat} {v : Value} {n : Nat} {xs : List Value} (h : w.ownsRow base e size v n xs) {a : Option Addr} {m c : Nat} (hv : v = .slice a m c) : m = n := by
  rcases h.2 with ⟨h1, h2⟩ | ⟨g1, cap1, _, h1, _⟩
  · rw [hv] at h1; simp at h1; omega
  · rw [hv] at h1; simp at h1; exact h1.2.1
theorem row_up {w : World} {base B : Nat} {e : TypeId} {size : Nat} {v : Value} {n : Nat} {xs : List Value} (h : w.ownsRow base e size v n xs) (hb : ∀ b, v.ownBlock = some b → B ≤ b) : w.ownsRow B e size v n xs := by
  refine ⟨h.1, ?_⟩
  rcases h.2 with h1 | ⟨g, cap, cur, rfl, _, hr⟩
  · exact .inl h1
  · exact .inr ⟨g, cap, cur, rfl, hb g rfl, hr⟩
theorem ReadInv.more {B g gl gr : Nat} {s : Disk.St} {own : Nat → Nat} {L : Int × Int × Int} {hb : Bool} {P S : List Nat} {j p left : Nat} {pa da : Option Addr} {w : World} {k o o' : Nat} {v : Value} {w' : World} {j' : Nat} {s' : Disk.St} {pa' : Option Addr} {pc' : Nat} {da' : Option Addr} {dc' : Nat}
    (h : ReadInv B g gl gr s own L hb P S j p left pa da w k o v w' j' s' pa' pc' da' dc') (ho : o ≤ o') : ReadInv B g gl gr s own L hb P S j p left pa da w k o' v w' j' s' pa' pc' da' dc' :=
  ⟨h.sys, h.same, h.pages, by have := h.ops; omega, h.mem, h.move, h.else_, h.from_, h.row, h.apart, h.lo, h.hi, h.in_, h.good⟩
/-- A page was read. -/
theorem ReadInv.turned {B g gl gr : Nat} {s : Disk.St} {own : Nat → Nat} {L : Int × Int × Int} {hb : Bool} {P S : List Nat} {j p left : Nat} {pa da : Option Addr} {w : World} {k o : Nat} {v : Value} {w' : World} {j' : Nat} {s' : Disk.St} {pa' : Option Addr} {pc' : Nat} {da' : Option Addr} {dc' : Nat}
    (h : ReadInv B g gl gr s own L hb P S j p left pa da w k o v w' j' s' pa' pc' da' dc') (h0 : DiskAt w g s own) (hgl : gl < w.heap.size) (hgr : gr < w.heap.size) (h10 : 10 < s.page) (hj : j' < P.length) (hk : p + k = j' * (s.page - 10)) (hkS : p + k < S.length) {w2 : World} {s2 : Disk.St} {da2 : Option Addr} (hT : RTurnPost B g gl gr s' own L hb P S j' left pa' da' w' 0 w2 s2 da2) :
    ∃ pa2 pc2 dc2, ReadInv B g gl gr s own L hb P S j p left pa da w k (o + 1) v w2 (j' + 1) s2 pa2 pc2 da2 dc2 ∧ 0 < (atHand s S (j' + 1) (p + k)).length := by
  obtain ⟨hg, pa2, pc2, dc2, hm, hfrom⟩ := hT.ok rfl
  have hpg : s'.page = s.page := h.same.page
  have hvb : ∀ b, v.ownBlock = some b → w.heap.size ≤ b ∧ b < w'.heap.size := fun b hb => h.row.lt b hb
  have hvn : ∀ b, v.ownBlock = some b → ¬ RFoot gr da' b := fun b hb hr => by
    have := hvb b hb
    rcases hr with rfl | ⟨q, hq, e⟩
    · omega
    · exact h.apart b q hb hq e
  have hdo : ∀ b, v.ownBlock = some b → own b = 0 := fun b hb => by
    have h1 := hvb b hb
    exact h0.fresh b h1.1
  refine ⟨pa2, pc2, dc2, ⟨hT.sys, h.same.trans hT.same, hT.pages.trans h.pages, by have := hT.ops; have := h.ops; omega, ?_, h.move.trans hT.move, fun q hq => ?_, fun q hq => ?_, ?_, fun b q hb hq e => ?_, Nat.le_succ_of_le h.lo, hj, ?_, fun i h1 h2 => ?_⟩, ?_⟩
  · have := hm
    rw [hpg] at this
    rw [hk, atHand_page]
    exact this
  · obtain ⟨q1, hq1, e⟩ := hfrom q hq
    obtain ⟨h1, h2, h3⟩ := h.else_ q1 hq1
    rw [e]
    refine ⟨h1, h2, fun hf => h3 ?_⟩
    obtain ⟨q2, hq2, e2⟩ := h.from_ q1 hq1
    have hlt : q1.block < w'.heap.size := by
      rcases h.mem.rows with e3 | ⟨b3, off3, e3, h4⟩
      · rw [List.drop_eq_nil_iff] at e3; omega
      · rw [hq1] at e3
        obtain rfl := Option.some.inj e3
        exact World.block_lt_of_cell? w' _ (h4 0 (by rw [List.length_drop]; omega))
    exact hT.move.foot _ hlt hf
  · obtain ⟨q1, hq1, e⟩ := hfrom q hq
    obtain ⟨q2, hq2, e2⟩ := h.from_ q1 hq1
    exact ⟨q2, hq2, e.trans e2⟩
  · refine ownsRow_keep h.row fun b hb => ?_
    have h1 := hvb b hb
    exact hT.move.same h1.2 (hdo b hb) (by omega) (hvn b hb)
  · have h1 := hvb b hb
    exact hvn b hb (hT.move.foot b h1.2 (.inr ⟨q, hq, e⟩))
  · rw [Nat.succ_mul]
    have := h.in_
    omega
  · rcases Nat.lt_or_ge i j' with h3 | h3
    · exact h.good i h1 h3
    · obtain rfl : i = j' := by omega
      unfold Tape.Good at hg ⊢
      rw [hpg, h.pages] at hg
      exact hg
  · rw [length_atHand, Nat.succ_mul]
    omega
/-- Bytes were brought. -/
theorem ReadInv.put {B g gl gr : Nat} {s : Disk.St} {own : Nat → Nat} {L : Int × Int × Int} {hb : Bool} {P S : List Nat} {j p left : Nat} {pa da : Option Addr} {w : World} {k o : Nat} {v : Value} {w' : World} {j' : Nat} {s' : Disk.St} {pa' : Option Addr} {pc' : Nat} {da' : Option Addr} {dc' : Nat}
    (h : ReadInv B g gl gr s own L hb P S j p left pa da w k o v w' j' s' pa' pc' da' dc') (h0 : DiskAt w g s own) (hBw : B ≤ w.heap.size) (hgl : gl < w.heap.size) (hgr : gr < w.heap.size) (hpal : ∀ q, pa = some q → q.block < w.heap.size) (m : Nat) (hm1 : 1 ≤ m) (hm : m ≤ (atHand s S j' (p + k)).length) {v' : Value} {w3 : World} (hrow0 : w3.ownsRow 0 5 1 v' (k + m) (u8s ((S.drop p).take k) ++ u8s ((atHand s S j' (p + k)).take m))) (hL : Lies w' w3 v v')
    (da2 : Option Addr) (dc2 n : Nat) (hn : n = (atHand s S j' (p + k)).length - m) (hda : n = 0 ∨ ∃ b off, da' = some ⟨b, off, none⟩ ∧ da2 = some ⟨b, off + m, none⟩) (hdb : ∀ q, da2 = some q → ∃ q', da' = some q' ∧ q.block = q'.block) (hdc : n ≤ dc2 ∧ dc2 ≤ 9223372036854775807) :
    ReadInv B g gl gr s own L hb P S j p left pa da w (k + m) o v' (w3.setCell ⟨gr, 4, none⟩ (.slice da2 n dc2)) j' s' pa' pc' da2 dc2 := by
  have hvb : ∀ b, v.ownBlock = some b → w.heap.size ≤ b ∧ b < w'.heap.size := fun b hb => h.row.lt b hb
  have hvn : ∀ b, v.ownBlock = some b → ¬ RFoot gr da' b := fun b hb hr => by
    have := hvb b hb
    rcases hr with rfl | ⟨q, hq, e⟩
    · omega
    · exact h.apart b q hb hq e
  have hgr' := h.mem.obj.lt
  have hw' := h.move.touch.size
  have hsz3 := lies_size hL
  have hset : ∀ x, x ≠ gr → (w3.setCell ⟨gr, 4, none⟩ (.slice da2 n dc2)).heap[x]? = w3.heap[x]? := fun x hx => Below.heap_setCell _ _ _ _ (fun e => hx e)
  have hszs : (w3.setCell ⟨gr, 4, none⟩ (.slice da2 n dc2)).heap.size = w3.heap.size := by simp [World.setCell]
  have hv'b : v'.ownBlock = v.ownBlock ∨ v'.ownBlock = some w'.heap.size := by
    rcases hL with ⟨e, _⟩ | ⟨e, _⟩
    · exact .inl e
    · exact .inr e
  have hrow := row_up hrow0 (B := w.heap.size) fun b hb => by
    rcases hv'b with h1 | h1
    · rw [h1] at hb; exact (hvb b hb).1
    · rw [h1] at hb; simp at hb; omega
  have hkeep : ∀ b, b < w'.heap.size → v.ownBlock ≠ some b → w3.heap[b]? = w'.heap[b]? := fun b hb hne => lies_block hL hb hne
  have hpaE : ∀ q, pa' = some q → q.block < w.heap.size := fun q hq => by
    obtain ⟨q', hq', e2⟩ := h.from_ q hq
    rw [e2]; exact hpal q' hq'
  have hT : Touch (fun b => RFoot gr da' b ∨ v.ownBlock = some b) w' (w3.setCell ⟨gr, 4, none⟩ (.slice da2 n dc2)) := ((lies_touch hL).mono fun _ _ hb => .inr hb).setCell (.inl (.inl (.inl rfl))) _
  -- what was there when the call began is as the last world has it
  have hmem3 : RdMem w3 gr g gl s.page hb (P.drop j') (atHand s S j' (p + k)) left pa' pc' da' dc' := h.mem.keep fun b hb hlt => by
    refine hkeep b hlt fun e => ?_
    rcases hb with hb | ⟨q, hq, rfl⟩
    · exact hvn b e hb
    · have := hpaE q hq
      have := hvb _ e
      omega
  have hsys : Sys B (w3.setCell ⟨gr, 4, none⟩ (.slice da2 n dc2)) g gl s' own L := h.sys.touch hT fun b hlt hb => by
    rcases hb with hb | hb
    · obtain ⟨h1, h2, h3, _⟩ := h.move.free b hb; exact ⟨h1, h2, h3⟩
    · have h1 := hvb b hb
      exact ⟨by omega, h0.fresh b h1.1, by omega⟩
  have hmove : Move B gl w (w3.setCell ⟨gr, 4, none⟩ (.slice da2 n dc2)) own own (RFoot gr da) (RFoot gr da2) := by
    have hft : ∀ b, RFoot gr da2 b → RFoot gr da' b := fun b hb => by
      rcases hb with rfl | ⟨q, hq, rfl⟩
      · exact .inl rfl
      · obtain ⟨q', hq', e⟩ := hdb q hq
        exact .inr ⟨q', hq', e.symm⟩
    refine ⟨h.move.touch.trans (Q := fun b => RFoot gr da' b ∨ v.ownBlock = some b) hT fun b hb hq => ?_, h.move.marks, fun b hb hf => h.move.foot b hb (hft b hf), fun b hb => ?_⟩
    · rcases hq with hq | hq
      · exact .inr (.inr (h.move.foot b hb hq))
      · have := hvb b hq; omega
    · obtain ⟨h1, h2, h3, h4⟩ := h.move.free b (hft b hb)
      exact ⟨h1, h2, h3, by rw [hszs]; omega⟩
  have hv'gr : ∀ b, v'.ownBlock = some b → b ≠ gr := fun b hb e => by
    subst e
    rcases hv'b with h1 | h1
    · rw [h1] at hb; have := hvb _ hb; omega
    · rw [h1] at hb; simp at hb; omega
  refine ⟨hsys, h.same, h.pages, h.ops, ?_, hmove, fun q hq => ?_, h.from_, ?_, fun b q hb hq e => ?_, h.lo, h.hi, ?_, h.good⟩
  · have hlen : (atHand s S j' (p + (k + m))).length = n := by rw [← Nat.add_assoc, ← atHand_drop, List.length_drop]; exact hn.symm
    refine ⟨by rw [hlen]; exact hmem3.obj.s4 _, ?_, ?_, ?_, h.mem.pcap, by rw [hlen]; exact hdc, fun q hq => by obtain ⟨q', hq', e⟩ := hdb q hq; rw [e]; exact h.mem.dgr q' hq'⟩
    · rcases hmem3.rows with e | ⟨b, off, e, h2⟩
      · exact .inl e
      · exact .inr ⟨b, off, e, fun i hi => (World.cell?_of_block (a := ⟨b, off + i, none⟩) (hset b (fun e3 => by have := hpaE _ e; have h5 : b = gr := e3; exact (h.else_ _ e).2.2 (.inl h5)))).trans (h2 i hi)⟩
    · rw [← Nat.add_assoc, ← atHand_drop]
      rcases hda with h1 | ⟨b, off, e1, e2⟩
      · exact .inl (List.eq_nil_of_length_eq_zero (by rw [List.length_drop]; omega))
      · obtain ⟨b4, o4, e4, h4⟩ := hmem3.data.resolve_left (fun e => by rw [e] at hm; simp at hm; omega)
        rw [e1] at e4
        simp only [Option.some.injEq, Addr.mk.injEq, and_true] at e4
        obtain ⟨rfl, rfl⟩ := e4
        refine .inr ⟨b, off + m, e2, fun i hi => ?_⟩
        have hbg : b ≠ gr := h.mem.dgr _ e1
        rw [World.cell?_of_block (a := ⟨b, off + m + i, none⟩) (hset b hbg)]
        have h6 := h4 (m + i) (by rw [List.length_drop] at hi; omega)
        rw [← Nat.add_assoc] at h6
        rw [h6]
        simp [List.getD_eq_getElem?_getD, List.getElem?_drop]
    · rw [← Nat.add_assoc, ← atHand_drop]; exact oct_drop _ h.mem.oct
  · obtain ⟨h1, h2, h3⟩ := h.else_ q hq
    refine ⟨h1, h2, fun hf => h3 ?_⟩
    rcases hf with hf | ⟨q2, hq2, e⟩
    · exact .inl hf
    · obtain ⟨q', hq', e2⟩ := hdb q2 hq2
      exact .inr ⟨q', hq', e2.symm.trans e⟩
  · have := ownsRow_keep hrow fun b hb => hset b (hv'gr b hb)
    rw [drop_part, atHand_take s S j' (p + k) m hm] at *
    simpa [u8s] using this
  · obtain ⟨q', hq', e2⟩ := hdb q hq
    rcases hv'b with h1 | h1
    · rw [h1] at hb
      exact h.apart b q' hb hq' (e2 ▸ e)
    · rw [h1] at hb
      simp at hb
      have hlt := (h.move.free q'.block (.inr ⟨q', hq', rfl⟩)).2.2.2
      omega
  · have := h.in_
    rw [length_atHand] at hm
    omega
set_option maxRecDepth 100000 in
set_option maxHeartbeats 4000000 in
theorem rread_any (B g gl gr : Nat) (s : Disk.St) (own : Nat → Nat) (L : Int × Int × Int) (hb : Bool) (P S : List Nat) (j p n left : Nat) (pa : Option Addr) (pc : Nat) (da : Option Addr) (dc : Nat) (w : World) (hS : Sys B w g gl s own L) (hT : Tape.Tp s P S) (hM : RdMem w gr g gl s.page hb (P.drop j) (atHand s S j p) left pa pc da dc)
    (hF : Free B gl w own (RFoot gr da)) (hel : Else pa gl own (RFoot gr da)) (hpal : ∀ q, pa = some q → q.block < w.heap.size) (hj : j ≤ P.length) (hin : p ≤ min (j * (s.page - 10)) S.length) (hn : p + n ≤ S.length) (ho : s.ops + n < 4611686018427387900) :
    Calls Tryd.prog 59 #[.pointer (some ⟨gr, 0, none⟩), .int .i64 ((n : Nat) : Int)] w (ReadEnd B g gl gr s own L hb P S j p n left pa da w) := by
  have hpage := hS.pageOk
  have hpb := pageOk_bounds hpage
  have c0 := hM.obj.c0
  unfold ptr at c0
  have c3 := hM.obj.c3
  have c4 := hM.obj.c4
  obtain ⟨room, hroom⟩ : ∃ room, room = s.page - 10 := ⟨_, rfl⟩
  have hro : roomOf (s.page : Int) = (room : Int) := by unfold roomOf; rw [if_pos (pageB_nat hpage)]; omega
  have hr64 : 54 ≤ room ∧ room ≤ 4086 := by omega
  have hPl : P.length ≤ 16384 := by
    have := Disk.live_gone s.pages P hT.nodup hT.used
    have := Disk.live_le s.pages
    have := hS.len16
    omega
  have hSl : S.length ≤ 66945024 := by
    have h5 := Tape.need_lo (room := s.page - 10) (n := S.length) (by omega)
    rw [← hT.len, ← hroom] at h5
    have h6 := Nat.mul_le_mul hPl hr64.2
    omega
  obtain ⟨rl, hrl⟩ : ∃ rl, rl = (P.drop j).length := ⟨_, rfl⟩
  obtain ⟨dl, hdl⟩ : ∃ dl, dl = (atHand s S j p).length := ⟨_, rfl⟩
  rw [← hrl] at c3
  rw [← hdl] at c4
  have hrl2 : rl ≤ 16384 := by rw [hrl, List.length_drop]; omega
  have hdl2 : dl ≤ 66945024 := by rw [hdl, length_atHand]; omega
  have hmul : rl * room ≤ 66945024 := by have := Nat.mul_le_mul hrl2 hr64.2; omega
  obtain ⟨z, hz⟩ : ∃ z, z = rl * room := ⟨_, rfl⟩
  have hzi : (rl : Int) * (room : Int) = (z : Int) := by rw [hz]; simp
  have hzw : IntKind.i64.wrap ((rl : Int) * (room : Int)) = (z : Int) := by rw [hzi]; exact IntWalk.i64_in _ (by omega)
  have hsw : IntKind.i64.wrap ((dl : Int) + (z : Int)) = ((dl + z : Nat) : Int) := by rw [IntWalk.i64_in _ (by omega)]; simp
  rw [← hz] at hmul
  have HCP : Hid (∀ u, Calls Tryd.prog 41 #[.pointer (some ⟨g, 0, none⟩)] (w.drewN u) fun e w' => e = .returned (.int .i64 ((s.page : Nat) : Int)) ∧ w' = w.drewN u) := fun u => (page_any g s own (w.drewN u) (hS.disk.drewN u)).mono fun _ _ h => ⟨h.1, h.2.symm⟩
  have HCR : Hid (∀ u, Calls Tryd.prog 56 #[.int .i64 ((s.page : Nat) : Int)] (w.drewN u) fun e w' => e = .returned (.int .i64 (room : Int)) ∧ w' = w.drewN u) := fun u => (room_any s.page (w.drewN u) (by omega) (by omega)).mono fun _ _ h => ⟨by rw [h.1, hro], h.2.symm⟩
  have hgrw := hM.obj.lt
  have hglw := hS.led.lt
  have HBW := Lib.hid hS.size
  have HR := Lib.hid hroom
  have HS := Lib.hid hS
  have HM := Lib.hid hM
  have HF := Lib.hid hF
  have HT := Lib.hid hT
  have HEL := Lib.hid hel
  have HPAL := Lib.hid hpal
  have HJ := Lib.hid hj
  have HIN := Lib.hid hin
  have HN := Lib.hid hn
  have HZ := Lib.hid hz
  clear hS hM hF hT hel hpal hj hin hroom hro hrl hdl hz hzi
  go_enter Tryd.func59, Tryd.ntmps59
  go_wp2_with fail
  go_quiet ((first | (go_at_call 41; exact Calls.quiet_of_same (HCP.out _)) | (go_at_call 56; exact Calls.quiet_of_same (HCR.out _))))
  obtain ⟨most, hmost⟩ : ∃ most, most = dl + z := ⟨_, rfl⟩
  obtain ⟨cp, hcp⟩ : ∃ cp, cp = min n most := ⟨_, rfl⟩
  have hcp2 : cp ≤ 134000000 := by omega
  obtain ⟨i0, hi, hz0, hz1, hz2⟩ := info_parts infoByte
  have hmk : ∀ u : World, (Instr.makeSlice 29 (.int .i64 0) (.int .i64 (cp : Int))).run Tryd.prog u = .ok (.slice (some ⟨u.heap.size, 0, none⟩) 0 cp) (u.alloc (.cells (madeCells #[.int .u8 0] cp) 5)) := fun u => by
    have h := run_make (P := Tryd.prog) u 29 5 i0 (.int .u8 0) Tryd.underlying29 hi hz0 .i64 .i64 0 (cp : Int) (Int.le_refl _) (by omega) (by rw [hz2]; omega) (by omega)
    rw [Int.toNat_natCast] at h
    simpa [hz1, Value.cells] using h
  have hmi : (dl : Int) + (z : Int) = (most : Int) := by omega
  have HCPE := Lib.hid hcp
  have HMO := Lib.hid hmost
  have hnm : (if (n : Int) ≤ (most : Int) then (n : Int) else (most : Int)) = (cp : Int) := by
    split <;> omega
  clear hzw hsw hmul hdl2 hrl2
  rw [hmi]
  clear hmi hmost hcp
  by_cases hle : (n : Int) ≤ (most : Int)
  all_goals
    first
      | (have hcn : (cp : Int) = (n : Int) := by rw [← hnm, if_pos hle])
      | (have hcn : (cp : Int) = (most : Int) := by rw [← hnm, if_neg hle])
    rw [hcn] at hmk
    clear hnm
    go_wp2_with fail
    have hI0 : ∀ c : Nat, c = cp → ReadInv B g gl gr s own L hb P S j p left pa da w 0 0 (.slice (some ⟨w.heap.size, 0, none⟩) 0 c) ((w.drewN nq).alloc (.cells (madeCells #[.int .u8 0] cp) 5)) j s pa pc da dc := fun c hc => by
      subst hc
      have hB1 : Below w.heap.size w ((w.drewN nq).alloc (.cells (madeCells #[.int .u8 0] c) 5)) := (drewN_below w nq).alloc (Nat.le_refl _) _
      refine ⟨HS.out.below hB1, Disk.Same.refl s, rfl, Nat.le_refl _, HM.out.below hB1, Move.of_below HF.out hB1, HEL.out, fun q hq => ⟨q, hq, rfl⟩, ?_, fun b q hb hq e => ?_, Nat.le_refl _, HJ.out, HIN.out, fun i h1 h2 => by omega⟩
      · have := World.ownsRow_made (w := w.drewN nq) (base := w.heap.size) (e := 5) (size := 1) (madeCells #[.int .u8 0] c) c (Nat.le_refl _) (by unfold maxLen; omega) (by rw [← Array.length_toList, toList_madeCells_one]; simp)
        simpa [u8s] using this
      · simp [Value.ownBlock] at hb
        have h3 := (HF.out q.block (.inr ⟨q, hq, rfl⟩)).2.2.2
        omega
    have HI0 := Lib.hid hI0
    clear hI0
    go_loopw [7] (fun bv wr => ∃ (k : Nat) (va : Option Addr) (vc j' : Nat) (s' : Disk.St) (pa' : Option Addr) (pc' : Nat) (da' : Option Addr) (dc' : Nat), k ≤ n ∧ bv = .slice va k vc ∧ Hid (ReadInv B g gl gr s own L hb P S j p left pa da w k k (.slice va k vc) wr j' s' pa' pc' da' dc')) (fun bv _ => match bv with | .slice _ m _ => n - m | _ => 0)
    case atStart => exact ⟨0, _, _, j, s, pa, pc, da, dc, Nat.zero_le _, rfl, HI0.out _ rfl⟩
    case round =>
      obtain ⟨k, va, vc, j', s', pa', pc', da', dc', hk, rfl, hI⟩ := hrel
      have HI := hI
      clear hI HI0 hmk hle hcn
      by_cases hlt : k < n
      · by_cases hd0 : (atHand s S j' (p + k)).length = 0
        · have hlen1 : (atHand s S j' (p + k)).length = 0 := hd0
          obtain ⟨hjl, hpk⟩ := HI.out.j_lt HT.out (by omega) hd0 (by omega)
          have hpg := HI.out.same.page
          have C1 := rturn_any B g gl gr s' own L hb P S (atHand s S j' (p + k)) j' left pa' pc' da' dc' wr HI.out.sys (HT.out.keep HI.out.same (fun _ _ => by rw [HI.out.pages])) (by rw [hpg]; exact HI.out.mem) HI.out.move.free HI.out.else_ hjl (by have := HI.out.ops; omega)
          have HC1 := Lib.hid C1
          have k4 := HI.out.mem.obj.c4
          rw [hd0] at k4
          have HJL := Lib.hid hjl
          have HPK := Lib.hid hpk
          clear C1 hd0 hlen1 hjl hpk hpg
          go_wp2_with fail
          refine HC1.out.mono ?_
          rintro e W2 ⟨E, s2, da2, rfl, hT2⟩
          by_cases hE : E = 0
          · subst hE
            obtain ⟨pa2, pc2, dc2, hI2, hq2⟩ := HI.out.turned HS.out.disk hglw hgrw (by omega) HJL.out HPK.out (by omega) hT2
            have HQ1 : Hid (1 ≤ (atHand s S (j' + 1) (p + k)).length) := hq2
            clear HI HC1 hT2 hq2 k4
            have HI := Lib.hid hI2
            clear hI2
            have hmem := HI.out.mem
            have k4 := hmem.obj.c4
            have f4 := hmem.obj.fr 4
            obtain ⟨q, hq⟩ : ∃ q, q = (atHand s S (j' + 1) (p + k)).length := ⟨_, rfl⟩
            rw [← hq] at k4
            have hq1 : 1 ≤ q := by rw [hq]; exact HQ1.out
            have hdcap := hmem.dcap
            rw [← hq] at hdcap
            have HQ := Lib.hid hq
            obtain ⟨db, doff, e, hdr⟩ := hmem.data.resolve_left (fun e => by have := HQ1.out; rw [e] at this; simp at this)
            subst e
            obtain ⟨r, hr⟩ : ∃ r, n = k + r := ⟨n - k, by omega⟩
            have hr1 : 1 ≤ r := by omega
            have hri : (n : Int) - (k : Int) = (r : Int) := by omega
            obtain ⟨m, hm⟩ : ∃ m, m = min r q := ⟨_, rfl⟩
            have hm1 : 1 ≤ m ∧ m ≤ r ∧ m ≤ q := by omega
            have HMM := Lib.hid hm
            have hmc : m ≤ dc2 := by omega
            have hmci : (m : Int) ≤ (dc2 : Int) := by omega
            have hmqi : (m : Int) ≤ (q : Int) := by omega
            have hlm : ((atHand s S (j' + 1) (p + k)).take m).length = m := by rw [List.length_take, ← hq]; omega
            have hrdm : Reads W2 db doff ((atHand s S (j' + 1) (p + k)).take m) := by
              have := hdr.part 0 m
              rwa [List.drop_zero, Nat.add_zero] at this
            have HLM := Lib.hid hlm
            have HNEWS := Lib.hid (reads_news hrdm)
            have hrowv := HI.out.row
            have HROWV : Hid (W2.ownsRow 0 5 1 (.slice va k vc) k (u8s ((S.drop p).take k))) := ownsRow_base (Nat.zero_le _) hrowv
            have hvgr : ∀ b, (Value.slice va k vc).ownBlock = some b → b ≠ gr := fun b hb e => by
              have h1 := (hrowv.lt b hb).1
              omega
            have HVGR := Lib.hid hvgr
            have hgrW := hmem.obj.lt
            clear hmem hq hdr hr hm hlm hrdm hrowv hvgr
            by_cases hqr : r ≤ q
            all_goals
              first
                | (have hmv : m = r := by have := HMM.out; omega
                   have hqi : (r : Int) ≤ (q : Int) := by omega
                   clear HMM
                   subst hmv)
                | (have hmv : m = q := by have := HMM.out; omega
                   have hqi : (q : Int) < (r : Int) := by omega
                   clear HMM
                   subst hmv)
              go_wp2_with (at_builtin; refine wpList_append_or _ rfl _ _ 29 rfl 5 i0 (.int .u8 0) 1 Tryd.underlying29 hi hz0 hz1 hz2 rfl (.slice va k vc) k (u8s ((S.drop p).take k)) rfl HROWV.out ⟨db, doff, none⟩ _ dc2 (u8s ((atHand s S (j' + 1) (p + k)).take _)) rfl (by rw [length_u8s]; exact HLM.out) (by omega) HNEWS.out (one_u8s _) (by unfold maxLen; omega) (by omega) ?_)
              intro v' w3 hrow hLie
              have hsz3 := lies_size hLie
              have hgw3 : w3.heap[gr]? = W2.heap[gr]? := lies_block hLie hgrW (fun e => HVGR.out _ e rfl)
              have k43 := (World.cell?_of_block (a := ⟨gr, 4, none⟩) hgw3).trans k4
              have f43 := (World.frozen?_of_block (a := ⟨gr, 4, none⟩) hgw3).trans f4
              obtain ⟨va2, vn2, vc2, hv'⟩ := row_slice hrow
              have hvn2 := row_len hrow hv'
              subst hvn2
              subst hv'
              have HROW := Lib.hid hrow
              have HLIE := Lib.hid hLie
              clear hrow hLie hgw3
              go_wp2_with fail
              refine ⟨⟨k + m, va2, vc2, (j' + 1), s2, pa2, pc2, if dc2 = m then some ⟨db, doff, none⟩ else some ⟨db, doff + m, none⟩, dc2 - m, by omega, rfl, ?_⟩, by simp only []; omega⟩
              refine (HI.out.put HS.out.disk HBW.out hglw hgrw HPAL.out m (by omega) (by rw [← HQ.out]; omega) HROW.out HLIE.out _ _ _ (by have := HQ.out; omega) ?_ ?_ (by omega)).more (by omega)
              · by_cases hdm : dc2 = m
                · exact .inl (by omega)
                · exact .inr ⟨db, doff, rfl, by rw [if_neg hdm]⟩
              · intro x hx
                refine ⟨_, rfl, ?_⟩
                split at hx
                · obtain rfl := Option.some.inj hx; rfl
                · obtain rfl := Option.some.inj hx; rfl

          · have dE : ((E : Int) != 0) = true := by rw [bne_iff_ne]; omega
            have HT2 := Lib.hid hT2
            have HE := Lib.hid hE
            clear hT2 hE HC1
            go_wp2_with fail
            go_ret2
            have h := HI.out
            have h2 := HT2.out
            refine ⟨E, .slice none 0 0, s2, da2, rfl, h2.sys, h.same.trans h2.same, h2.pages.trans h.pages, by have := h.ops; have := h2.ops; omega, by have := h2.any; rw [h.same.page] at this; exact this, h.move.trans h2.move, h2.err, fun h3 => absurd h3 HE.out, fun _ => rfl, fun hc => h2.calm (h.same.calm hc), fun hc hg => ?_⟩
            refine h2.good (h.same.calm hc) ?_
            have h3 := hg j' h.lo (by
              rcases Nat.lt_or_ge j' (Tape.need (s.page - 10) (p + n)) with h4 | h4
              · exact h4
              · have h5 := Tape.need_lo (room := s.page - 10) (n := p + n) (by omega)
                have h6 := Nat.mul_le_mul_right (s.page - 10) h4
                have h7 := HPK.out
                omega)
            unfold Tape.Good at h3 ⊢
            rw [h.same.page, h.pages]
            exact h3
        · have HQ1 : Hid (1 ≤ (atHand s S j' (p + k)).length) := by show 1 ≤ _; omega
          have dq : (((atHand s S j' (p + k)).length : Int) == 0) = false := by rw [beq_eq_false_iff_ne]; omega
          clear hd0
          have hmem := HI.out.mem
          have k4 := hmem.obj.c4
          have f4 := hmem.obj.fr 4
          obtain ⟨q, hq⟩ : ∃ q, q = (atHand s S j' (p + k)).length := ⟨_, rfl⟩
          rw [← hq] at k4
          have hq1 : 1 ≤ q := by rw [hq]; exact HQ1.out
          have hdcap := hmem.dcap
          rw [← hq] at hdcap
          have HQ := Lib.hid hq
          obtain ⟨db, doff, e, hdr⟩ := hmem.data.resolve_left (fun e => by have := HQ1.out; rw [e] at this; simp at this)
          subst e
          obtain ⟨r, hr⟩ : ∃ r, n = k + r := ⟨n - k, by omega⟩
          have hr1 : 1 ≤ r := by omega
          have hri : (n : Int) - (k : Int) = (r : Int) := by omega
          obtain ⟨m, hm⟩ : ∃ m, m = min r q := ⟨_, rfl⟩
          have hm1 : 1 ≤ m ∧ m ≤ r ∧ m ≤ q := by omega
          have HMM := Lib.hid hm
          have hmc : m ≤ dc' := by omega
          have hmci : (m : Int) ≤ (dc' : Int) := by omega
          have hmqi : (m : Int) ≤ (q : Int) := by omega
          have hlm : ((atHand s S j' (p + k)).take m).length = m := by rw [List.length_take, ← hq]; omega
          have hrdm : Reads wr db doff ((atHand s S j' (p + k)).take m) := by
            have := hdr.part 0 m
            rwa [List.drop_zero, Nat.add_zero] at this
          have HLM := Lib.hid hlm
          have HNEWS := Lib.hid (reads_news hrdm)
          have hrowv := HI.out.row
          have HROWV : Hid (wr.ownsRow 0 5 1 (.slice va k vc) k (u8s ((S.drop p).take k))) := ownsRow_base (Nat.zero_le _) hrowv
          have hvgr : ∀ b, (Value.slice va k vc).ownBlock = some b → b ≠ gr := fun b hb e => by
            have h1 := (hrowv.lt b hb).1
            omega
          have HVGR := Lib.hid hvgr
          have hgrW := hmem.obj.lt
          clear hmem hq hdr hr hm hlm hrdm hrowv hvgr
          by_cases hqr : r ≤ q
          all_goals
            first
              | (have hmv : m = r := by have := HMM.out; omega
                 have hqi : (r : Int) ≤ (q : Int) := by omega
                 clear HMM
                 subst hmv)
              | (have hmv : m = q := by have := HMM.out; omega
                 have hqi : (q : Int) < (r : Int) := by omega
                 clear HMM
                 subst hmv)
            go_wp2_with (at_builtin; refine wpList_append_or _ rfl _ _ 29 rfl 5 i0 (.int .u8 0) 1 Tryd.underlying29 hi hz0 hz1 hz2 rfl (.slice va k vc) k (u8s ((S.drop p).take k)) rfl HROWV.out ⟨db, doff, none⟩ _ dc' (u8s ((atHand s S j' (p + k)).take _)) rfl (by rw [length_u8s]; exact HLM.out) (by omega) HNEWS.out (one_u8s _) (by unfold maxLen; omega) (by omega) ?_)
            intro v' w3 hrow hLie
            have hsz3 := lies_size hLie
            have hgw3 : w3.heap[gr]? = wr.heap[gr]? := lies_block hLie hgrW (fun e => HVGR.out _ e rfl)
            have k43 := (World.cell?_of_block (a := ⟨gr, 4, none⟩) hgw3).trans k4
            have f43 := (World.frozen?_of_block (a := ⟨gr, 4, none⟩) hgw3).trans f4
            obtain ⟨va2, vn2, vc2, hv'⟩ := row_slice hrow
            have hvn2 := row_len hrow hv'
            subst hvn2
            subst hv'
            have HROW := Lib.hid hrow
            have HLIE := Lib.hid hLie
            clear hrow hLie hgw3
            go_wp2_with fail
            refine ⟨⟨k + m, va2, vc2, j', s', pa', pc', if dc' = m then some ⟨db, doff, none⟩ else some ⟨db, doff + m, none⟩, dc' - m, by omega, rfl, ?_⟩, by simp only []; omega⟩
            refine (HI.out.put HS.out.disk HBW.out hglw hgrw HPAL.out m (by omega) (by rw [← HQ.out]; omega) HROW.out HLIE.out _ _ _ (by have := HQ.out; omega) ?_ ?_ (by omega)).more (by omega)
            · by_cases hdm : dc' = m
              · exact .inl (by omega)
              · exact .inr ⟨db, doff, rfl, by rw [if_neg hdm]⟩
            · intro x hx
              refine ⟨_, rfl, ?_⟩
              split at hx
              · obtain rfl := Option.some.inj hx; rfl
              · obtain rfl := Option.some.inj hx; rfl

      · have hk' : k = n := by omega
        subst hk'
        go_wp2_with fail
        go_ret2
        have h := HI.out
        exact ⟨0, .slice va k vc, s', da', rfl, h.sys, h.same, h.pages, h.ops, h.mem.any, h.move, .inl rfl, fun _ => ⟨j', pa', pc', dc', h⟩, fun h => absurd rfl h, fun _ => by decide, fun _ _ => rfl⟩
end Go.Proofs.YtbkiahnljklhpaaDoor
