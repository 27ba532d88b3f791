/- ROWS OF RECORDS THAT ARE BUILT BY append OF TWO AT A TIME (no walk). -/
import Derived.Test.YtlfjffpbofigmaaDoorTapeCommon
namespace Go.Proofs.YtlfjffpbofigmaaDoor
open Go.RowKit
open Seal
def RowT : TypeId := 46
theorem made_cells (m : Nat) : (madeCells #[Value.int .u8 0] m) = (u8s (List.replicate m 0)).toArray := by
  apply Array.toList_inj.1
  rw [toList_madeCells_one]; simp [u8s, u8]
theorem made_row (w : World) (X m : Nat) (hX : X ≤ w.heap.size) (hm : m ≤ 1000) (w' : World) (hb : w'.heap[w.heap.size]? = some (.cells (madeCells #[.int .u8 0] m) 5 (0, 0))) :
    w'.ownsRow X 5 1 (.slice (some ⟨w.heap.size, 0, none⟩) m m) m (u8s (List.replicate m 0)) := by
  refine ⟨by simp [u8s], .inr ⟨w.heap.size, m, _, rfl, hX, hb, Nat.le_refl _, by unfold maxLen; omega, ?_, ?_⟩⟩
  · rw [made_cells]; simp [u8s]
  · rw [made_cells]; simp [u8s]
theorem OutRows.more {X : Nat} {w w3 : World} {v v' : Value} {xs : List (List Nat)} {vs : List Value} {m : Nat} {o : Obj} (h : OutRows w X v xs vs) (hX : X ≤ w.heap.size) (hvl : vs.length = xs.length) (hm : m ≤ 1000)
    (hrow : w3.ownsRow 0 46 1 v' (xs.length + 2) (vs ++ [.slice (some ⟨w.heap.size, 0, none⟩) m m, .slice none 0 0])) (hL : Lies ((w.alloc (.cells (madeCells #[.int .u8 0] m) 5)).alloc o) w3 v v') :
    OutRows w3 X v' (xs ++ [List.replicate m 0, []]) (vs ++ [.slice (some ⟨w.heap.size, 0, none⟩) m m, .slice none 0 0]) ∧ Below X w w3 := by
  obtain ⟨w1, hw1⟩ : ∃ w1, w1 = w.alloc (.cells (madeCells #[.int .u8 0] m) 5) := ⟨_, rfl⟩
  rw [← hw1] at hL
  have hs1 : w1.heap.size = w.heap.size + 1 := by rw [hw1]; simp
  have hs2 : (w1.alloc o).heap.size = w.heap.size + 2 := by simp [hs1]
  have hs3 := lies_size hL
  have hvb : ∀ b, v.ownBlock = some b → X ≤ b ∧ b < w.heap.size := fun b hb => h.row.lt b hb
  have hv'b : v'.ownBlock = v.ownBlock ∨ v'.ownBlock = some (w.heap.size + 2) := by
    rcases hL with ⟨e, _⟩ | ⟨e, _⟩
    · exact .inl e
    · exact .inr (by rw [e, hs2])
  have hk : ∀ b, b < w.heap.size → v.ownBlock ≠ some b → w3.heap[b]? = w.heap[b]? := fun b hb hne => (lies_block hL (by omega) hne).trans ((Below.heap_alloc w1 o b (by omega)).trans (by rw [hw1]; exact Below.heap_alloc w _ b hb))
  have hnew : w3.heap[w.heap.size]? = some (.cells (madeCells #[.int .u8 0] m) 5 (0, 0)) := by
    refine (lies_block hL (by omega) (fun e => by have := hvb _ e; omega)).trans ((Below.heap_alloc w1 o _ (by omega)).trans ?_)
    rw [hw1]; exact heap_alloc_new w _
  have hT : Touch (fun b => v.ownBlock = some b) w w3 := by
    have := (((Touch.refl (fun b => v.ownBlock = some b) w).alloc (.cells (madeCells #[.int .u8 0] m) 5)).alloc o)
    rw [← hw1] at this
    exact this.trans (lies_touch hL) fun _ _ h => h
  have hgl : ∀ i, i < xs.length → (xs ++ [List.replicate m 0, []]).getD i [] = xs.getD i [] := fun i hi => by simp [List.getD_eq_getElem?_getD, List.getElem?_append_left hi]
  have hvl' : ∀ i, i < xs.length → (vs ++ [Value.slice (some ⟨w.heap.size, 0, none⟩) m m, .slice none 0 0]).getD i undef = vs.getD i undef := fun i hi => by simp [List.getD_eq_getElem?_getD, List.getElem?_append_left (show i < vs.length by omega)]
  have hx0 : (xs ++ [List.replicate m 0, []]).getD xs.length [] = List.replicate m 0 := by simp [List.getD_eq_getElem?_getD]
  have hx1 : (xs ++ [List.replicate m 0, []]).getD (xs.length + 1) [] = [] := by simp [List.getD_eq_getElem?_getD]
  have hv0 : (vs ++ [Value.slice (some ⟨w.heap.size, 0, none⟩) m m, .slice none 0 0]).getD xs.length undef = Value.slice (some ⟨w.heap.size, 0, none⟩) m m := by rw [← hvl]; simp [List.getD_eq_getElem?_getD]
  have hv1 : (vs ++ [Value.slice (some ⟨w.heap.size, 0, none⟩) m m, .slice none 0 0]).getD (xs.length + 1) undef = .slice none 0 0 := by rw [← hvl]; simp [List.getD_eq_getElem?_getD]
  have hlen : (xs ++ [List.replicate m 0, []]).length = xs.length + 2 := by simp
  refine ⟨⟨?_, fun i hi => ?_, fun i b hi hb => ?_, fun i hi => ?_⟩, hT.below hX fun i hi e => by have := hvb i e; omega⟩
  · rw [hlen]
    refine row_up hrow fun b hb => ?_
    rcases hv'b with e | e
    · rw [e] at hb; exact (hvb b hb).1
    · rw [e] at hb; simp at hb; omega
  · rw [hlen] at hi
    rcases Nat.lt_or_ge i xs.length with h1 | h1
    · rw [hgl i h1, hvl' i h1]
      refine ownsRow_keep (h.each i h1) fun b hb => ?_
      have h2 := (h.each i h1).lt b hb
      exact hk b h2.2 (h.apart i b h1 hb)
    · rcases Nat.eq_or_lt_of_le h1 with h2 | h2
      · subst h2
        rw [hx0, hv0, List.length_replicate]
        exact made_row w X m hX hm w3 hnew
      · obtain rfl : i = xs.length + 1 := by omega
        rw [hx1, hv1]
        exact ⟨rfl, .inl ⟨rfl, rfl⟩⟩
  · rw [hlen] at hi
    rcases Nat.lt_or_ge i xs.length with h1 | h1
    · rw [hvl' i h1] at hb
      have h2 := (h.each i h1).lt b hb
      rcases hv'b with e | e
      · rw [e]; exact h.apart i b h1 hb
      · rw [e]; simp; omega
    · rcases Nat.eq_or_lt_of_le h1 with h2 | h2
      · subst h2
        rw [hv0] at hb
        simp [Value.ownBlock] at hb
        rcases hv'b with e | e
        · rw [e]; intro e3; have := hvb b e3; omega
        · rw [e]; simp; omega
      · obtain rfl : i = xs.length + 1 := by omega
        rw [hv1] at hb
        simp [Value.ownBlock] at hb
  · rw [hlen] at hi
    rcases Nat.lt_or_ge i xs.length with h1 | h1
    · rw [hgl i h1]; exact h.oct i h1
    · rcases Nat.eq_or_lt_of_le h1 with h2 | h2
      · subst h2
        rw [hx0]
        intro c hc
        rw [(List.mem_replicate.1 hc).2]; decide
      · obtain rfl : i = xs.length + 1 := by omega
        rw [hx1]
        intro c hc; simp at hc
/-- What TapeEdges has built behind c rounds. -/
structure Edge (w0 wr : World) (c : Nat) (v : Value) (sum : Nat) (xs : List (List Nat)) (vs : List Value) : Prop where
  out : OutRows wr w0.heap.size v xs vs
  below : Below w0.heap.size w0 wr
  len : xs.length = 2 * c
  vlen : vs.length = 2 * c
  tot : sum = (Tape.stream xs).length
  hi : sum ≤ 264 * c
  each : ∀ i, i < xs.length → (xs.getD i []).length ≤ 256
theorem Edge.start (w0 : World) : Edge w0 w0 0 (.slice none 0 0) 0 [] [] :=
  ⟨⟨⟨rfl, .inl ⟨rfl, rfl⟩⟩, fun i hi => by simp at hi, fun i b hi => by simp at hi, fun i hi => by simp at hi⟩, Below.refl _ _, rfl, rfl, by simp [Tape.stream], by omega, fun i hi => by simp at hi⟩
theorem Edge.more {w0 w w3 : World} {c : Nat} {v v' : Value} {sum : Nat} {xs : List (List Nat)} {vs : List Value} {m : Nat} {o : Obj} (h : Edge w0 w c v sum xs vs) (hm : m ≤ 256)
    (hrow : w3.ownsRow 0 46 1 v' (2 * c + 2) (vs ++ [.slice (some ⟨w.heap.size, 0, none⟩) m m, .slice none 0 0])) (hL : Lies ((w.alloc (.cells (madeCells #[.int .u8 0] m) 5)).alloc o) w3 v v') :
    Edge w0 w3 (c + 1) v' (sum + 8 + m) (xs ++ [List.replicate m 0, []]) (vs ++ [.slice (some ⟨w.heap.size, 0, none⟩) m m, .slice none 0 0]) := by
  have hl := h.len
  have hvl := h.vlen
  obtain ⟨h1, h2⟩ := h.out.more h.below.size (by omega) (by omega) (by rw [hl]; exact hrow) hL
  have hs : (Tape.stream (xs ++ [List.replicate m 0, []])).length = sum + 8 + m := by
    rw [show xs ++ [List.replicate m 0, []] = (xs ++ [List.replicate m 0]) ++ [[]] by simp, Tape.stream_snoc, Tape.stream_snoc, List.length_append, List.length_append, Tape.length_frame, Tape.length_frame, ← h.tot]
    simp; omega
  refine ⟨h1, h.below.trans h2, by simp; omega, by simp; omega, hs.symm, by have := h.hi; omega, fun i hi => ?_⟩
  rcases Nat.lt_or_ge i xs.length with h3 | h3
  · have : (xs ++ [List.replicate m 0, []]).getD i [] = xs.getD i [] := by simp [List.getD_eq_getElem?_getD, List.getElem?_append_left h3]
    rw [this]; exact h.each i h3
  · have hi' : i < xs.length + 2 := by simpa using hi
    rcases Nat.eq_or_lt_of_le h3 with h4 | h4
    · subst h4
      have : (xs ++ [List.replicate m 0, []]).getD xs.length [] = List.replicate m 0 := by simp [List.getD_eq_getElem?_getD]
      rw [this]; simp; exact hm
    · obtain rfl : i = xs.length + 1 := by omega
      have : (xs ++ [List.replicate m 0, []]).getD (xs.length + 1) [] = [] := by simp [List.getD_eq_getElem?_getD]
      rw [this]; simp
end Go.Proofs.YtlfjffpbofigmaaDoor
