/- TAPES AS LISTS (no program): a tape's bytes, its pages, what a writer leaves on the disk, what a page that was turned says. -/
import Derived.Test.YtbkiahnljklhpaaDoorDiskMath
import Derived.Test.YtbkiahnljklhpaaDoorSealTurn
namespace Go.Proofs.YtbkiahnljklhpaaDoor
open Seal
namespace Disk
theorem getD_put_same {l : Pages} {n : Nat} (p : Option (List Nat)) (hn : n ≤ l.length) : (put l n p).getD n none = p := by
  unfold put
  split
  · rename_i h; subst h; simp [List.getD_eq_getElem?_getD]
  · simp [List.getD_eq_getElem?_getD, show n < l.length by omega]
theorem getD_put_other {l : Pages} {n j : Nat} (p : Option (List Nat)) (hj : j ≠ n) : (put l n p).getD j none = l.getD j none := by
  unfold put
  split
  · rename_i h
    subst h
    simp only [List.getD_eq_getElem?_getD]
    rcases Nat.lt_trichotomy j l.length with h | h | h
    · rw [List.getElem?_append_left h]
    · exact absurd h hj
    · rw [List.getElem?_eq_none (by simp; omega), List.getElem?_eq_none (by omega)]
  · simp only [List.getD_eq_getElem?_getD, List.getElem?_set]
    rw [if_neg (Ne.symm hj)]
theorem used_of_getD {l : Pages} {n : Nat} {b : List Nat} (h : l.getD n none = some b) : used l n = true := by unfold used; rw [h]; rfl
theorem used_congr {l m : Pages} {n : Nat} (h : l.getD n none = m.getD n none) : used l n = used m n := by unfold used; rw [h]
/-- Nothing is planned for what comes. -/
def Calm (s : St) : Prop := ∀ k, s.ops - s.begun < k → s.plan k = []
theorem Calm.hit {s : St} (h : Calm s) (hb : s.begun ≤ s.ops) (sort : Nat) : hit sort (s.plan (s.ops + 1 - s.begun)) = (0, 0) := by
  rw [h _ (by omega)]; rfl
/-- From s to s' the disk is of the same make; operations were asked for. -/
structure Same (s s' : St) : Prop where
  page : s'.page = s.page
  most : s'.most = s.most
  begun : s'.begun = s.begun
  plan : s'.plan = s.plan
  ops : s.ops ≤ s'.ops
theorem Same.refl (s : St) : Same s s := ⟨rfl, rfl, rfl, rfl, Nat.le_refl _⟩
theorem Same.trans {a b c : St} (h : Same a b) (k : Same b c) : Same a c := ⟨k.page.trans h.page, k.most.trans h.most, k.begun.trans h.begun, k.plan.trans h.plan, Nat.le_trans h.ops k.ops⟩
theorem Same.calm {s s' : St} (h : Same s s') (c : Calm s) : Calm s' := fun k hk => by rw [h.plan]; exact c k (by have := h.begun; have := h.ops; omega)
/-- Of a row of numbers P has become P': what came was not in use; all are; the others are as they were. -/
structure Grow (s s' : St) (P P' : List Nat) : Prop where
  ext : ∃ Q, P' = P ++ Q ∧ ∀ n ∈ Q, used s.pages n = false
  nodup : P'.Nodup
  used : ∀ n ∈ P', used s'.pages n = true
  other : ∀ n, n ∉ P' → s'.pages.getD n none = s.pages.getD n none
  live : live s'.pages + P.length = live s.pages + P'.length
theorem Grow.refl {s : St} {P : List Nat} (hn : P.Nodup) (hu : ∀ n ∈ P, Disk.used s.pages n = true) : Grow s s P P := ⟨⟨[], by simp, by simp⟩, hn, hu, fun _ _ => rfl, rfl⟩
theorem Grow.mem {s s' : St} {P P' : List Nat} (h : Grow s s' P P') {n : Nat} (hn : n ∈ P) : n ∈ P' := by
  obtain ⟨Q, rfl, _⟩ := h.ext; simp [hn]
theorem Grow.trans {a b c : St} {P Q R : List Nat} (h : Grow a b P Q) (k : Grow b c Q R) : Grow a c P R := by
  obtain ⟨X, hX, hx⟩ := h.ext
  obtain ⟨Y, hY, hy⟩ := k.ext
  refine ⟨⟨X ++ Y, by rw [hY, hX, List.append_assoc], fun n hn => ?_⟩, k.nodup, k.used, fun n hn => ?_, by have := h.live; have := k.live; omega⟩
  · rcases List.mem_append.1 hn with hn | hn
    · exact hx n hn
    · have hb := hy n hn
      have hnQ : n ∉ Q := by
        have := k.nodup; rw [hY] at this
        exact fun e => (List.nodup_append.1 this).2.2 n e n hn rfl
      rw [← used_congr (h.other n hnQ)]; exact hb
  · have hnQ : n ∉ Q := fun e => hn (by rw [hY]; simp [e])
    exact (k.other n hn).trans (h.other n hnQ)
/-- The pages of a row of numbers are given back. -/
def gone (l : Pages) (P : List Nat) : Pages := P.foldl (fun l n => put l n none) l
theorem gone_snoc (l : Pages) (P : List Nat) (n : Nat) : gone l (P ++ [n]) = put (gone l P) n none := by simp [gone]
theorem getD_gone (l : Pages) (P : List Nat) (hu : ∀ n ∈ P, used l n = true) (j : Nat) : (gone l P).getD j none = if j ∈ P then none else l.getD j none := by
  unfold gone
  induction P generalizing l with
  | nil => simp
  | cons n r ih =>
    have hn := hu n (by simp)
    have hnl := used_lt hn
    by_cases hr : n ∈ r
    · -- a number that comes again is put again: harmless only for what is asked
      rw [List.foldl_cons]
      have key : ∀ (r : List Nat) (l : Pages) (j : Nat), (∀ n ∈ r, n < l.length) → (r.foldl (fun l n => put l n none) l).getD j none = if j ∈ r then none else l.getD j none := by
        intro r
        induction r with
        | nil => intro l j _; simp
        | cons m t ih2 =>
          intro l j hl
          have hm := hl m (by simp)
          have hlen : (put l m none).length = l.length := by unfold put; rw [if_neg (by omega)]; simp
          rw [List.foldl_cons, ih2 _ _ (fun n hn => by rw [hlen]; exact hl n (by simp [hn]))]
          by_cases e : j = m
          · subst e
            rw [getD_put_same _ (by omega)]
            simp
          · rw [getD_put_other _ e]
            simp [e]
      have := key (n :: r) l j (fun m hm => used_lt (hu m hm))
      rwa [List.foldl_cons] at this
    · rw [List.foldl_cons, ih _ (fun m hm => by
        rw [used_congr (getD_put_other _ (fun e => hr (by rw [← e]; exact hm)))]; exact hu m (by simp [hm]))]
      by_cases e : j = n
      · subst e
        rw [getD_put_same _ (by omega)]
        simp
      · rw [getD_put_other _ e]
        simp [e]
theorem used_gone (l : Pages) (P : List Nat) (hu : ∀ n ∈ P, used l n = true) (j : Nat) : used (gone l P) j = (used l j && !decide (j ∈ P)) := by
  unfold used
  rw [getD_gone l P hu]
  by_cases h : j ∈ P <;> simp [h]
theorem live_gone (l : Pages) (P : List Nat) (hn : P.Nodup) (hu : ∀ n ∈ P, used l n = true) : live (gone l P) + P.length = live l := by
  unfold gone
  induction P generalizing l with
  | nil => simp
  | cons n r ih =>
    have hn1 := List.nodup_cons.1 hn
    have h0 := hu n (by simp)
    have hnl := used_lt h0
    have h1 := live_put_none h0
    have h2 := ih (put l n none) hn1.2 (fun m hm => by
      rw [used_congr (getD_put_other _ (fun e => hn1.1 (by rw [← e]; exact hm)))]; exact hu m (by simp [hm]))
    rw [List.foldl_cons]
    simp only [List.length_cons] at *
    omega
theorem length_gone (l : Pages) (P : List Nat) (hu : ∀ n ∈ P, used l n = true) : (gone l P).length = l.length := by
  unfold gone
  have key : ∀ (r : List Nat) (l : Pages), (∀ n ∈ r, n < l.length) → (r.foldl (fun l n => put l n none) l).length = l.length := by
    intro r
    induction r with
    | nil => intro l _; rfl
    | cons m t ih =>
      intro l hl
      have hm := hl m (by simp)
      have hlen : (put l m none).length = l.length := by unfold put; rw [if_neg (by omega)]; simp
      rw [List.foldl_cons, ih _ (fun n hn => by rw [hlen]; exact hl n (by simp [hn])), hlen]
  exact key P l fun n hn => used_lt (hu n hn)
end Disk
namespace Tape
/-- A record, behind its length. -/
def frame (r : List Nat) : List Nat := le r.length 4 ++ r
def stream (rs : List (List Nat)) : List Nat := (rs.map frame).flatten
theorem stream_snoc (rs : List (List Nat)) (r : List Nat) : stream (rs ++ [r]) = stream rs ++ frame r := by simp [stream]
theorem stream_cons (r : List Nat) (rs : List (List Nat)) : stream (r :: rs) = frame r ++ stream rs := by simp [stream]
theorem stream_append (a b : List (List Nat)) : stream (a ++ b) = stream a ++ stream b := by simp [stream]
theorem length_frame (r : List Nat) : (frame r).length = 4 + r.length := by simp [frame, length_le]
theorem oct_frame {r : List Nat} (h : Oct r) : Oct (frame r) := oct_append (oct_le _ _) h
theorem oct_stream {rs : List (List Nat)} (h : ∀ r ∈ rs, Oct r) : Oct (stream rs) := by
  intro c hc
  unfold stream at hc
  obtain ⟨f, hf, hcf⟩ := List.mem_flatten.1 hc
  obtain ⟨r, hr, rfl⟩ := List.mem_map.1 hf
  exact oct_frame (h r hr) c hcf
/-- How many pages so many bytes need. -/
def need (room n : Nat) : Nat := (n + room - 1) / room
theorem need_lo {room n : Nat} (h0 : 0 < room) : n ≤ need room n * room := by
  unfold need
  have := Nat.div_add_mod (n + room - 1) room
  have h2 := Nat.mod_lt (n + room - 1) h0
  rw [Nat.mul_comm] at this
  omega
theorem need_hi {room n : Nat} (h0 : 0 < room) (hn : 0 < n) : (need room n - 1) * room < n := by
  unfold need
  have h1 := Nat.div_add_mod (n + room - 1) room
  have h3 : 1 ≤ (n + room - 1) / room := (Nat.one_le_div_iff h0).2 (by omega)
  rw [Nat.mul_comm] at h1
  rw [Nat.sub_mul]
  omega
theorem need_zero {room : Nat} (h0 : 0 < room) : need room 0 = 0 := by
  unfold need; exact Nat.div_eq_of_lt (by omega)
theorem need_of {room n k : Nat} (h0 : 0 < room) (h1 : n ≤ k * room) (h2 : k = 0 ∨ (k - 1) * room < n) : k = need room n := by
  unfold need
  rcases Nat.eq_zero_or_pos k with rfl | hk
  · rw [Nat.zero_mul] at h1
    have : n = 0 := by omega
    subst this
    exact (Nat.div_eq_of_lt (by omega)).symm
  · have h3 : (k - 1) * room < n := by rcases h2 with rfl | h2 <;> omega
    refine (Nat.div_eq_of_lt_le ?_ ?_).symm
    · have : k * room = (k - 1) * room + room := by rw [← Nat.succ_mul]; congr 1; omega
      omega
    · rw [Nat.succ_mul]; omega
theorem need_mono {room a b : Nat} (h : a ≤ b) : need room a ≤ need room b := Nat.div_le_div_right (by omega)
/-- What a page names as the one behind it: its number and 1, or 0. -/
def nextOf (P : List Nat) (i : Nat) : Nat := if i + 1 < P.length then P.getD (i + 1) 0 + 1 else 0
def chunk (room : Nat) (S : List Nat) (i : Nat) : List Nat := (S.drop (i * room)).take room
theorem length_chunk (room : Nat) (S : List Nat) (i : Nat) : (chunk room S i).length = min room (S.length - i * room) := by simp [chunk]
theorem oct_chunk {S : List Nat} (h : Oct S) (room i : Nat) : Oct (chunk room S i) := oct_take _ (oct_drop _ h)
theorem chunk_append (room : Nat) (S b : List Nat) (i : Nat) (h : (i + 1) * room ≤ S.length) : chunk room (S ++ b) i = chunk room S i := by
  unfold chunk
  rw [Nat.succ_mul] at h
  rw [List.drop_append_of_le_length (by omega), List.take_append_of_le_length (by simp; omega)]
theorem nextOf_append (P Q : List Nat) (i : Nat) (h : i + 1 < P.length) : nextOf (P ++ Q) i = nextOf P i := by
  unfold nextOf
  rw [if_pos h, if_pos (by simp; omega)]
  simp [List.getD_eq_getElem?_getD, List.getElem?_append_left h]
theorem nextOf_snoc (P : List Nat) (n : Nat) (i : Nat) (h : i + 1 = P.length) : nextOf (P ++ [n]) i = n + 1 := by
  unfold nextOf
  rw [if_pos (by simp; omega), h]
  simp [List.getD_eq_getElem?_getD]
theorem nextOf_last (P : List Nat) (i : Nat) (h : i + 1 = P.length) : nextOf P i = 0 := by
  unfold nextOf; rw [if_neg (by omega)]
/-- Page i of P is as it was sealed. -/
def Good (s : Disk.St) (P S : List Nat) (i : Nat) : Prop := s.pages.getD (P.getD i 0) none = some (closeB s.page (nextOf P i) (chunk (s.page - 10) S i))
/-- A writer's state: its pages P, the bytes S that were laid; the last page's are not yet written. -/
structure Wr (s : Disk.St) (P S : List Nat) : Prop where
  nodup : P.Nodup
  used : ∀ n ∈ P, Disk.used s.pages n = true
  lo : (P.length - 1) * (s.page - 10) ≤ S.length
  hi : S.length ≤ P.length * (s.page - 10)
  good : ∀ i, i + 1 < P.length → Good s P S i
  oct : Oct S
/-- The last page's data. -/
def tail_ (s : Disk.St) (P S : List Nat) : List Nat := S.drop ((P.length - 1) * (s.page - 10))
theorem Wr.empty (s : Disk.St) : Wr s [] [] := ⟨List.nodup_nil, by simp, by simp, by simp, fun i h => by simp at h, fun c hc => by simp at hc⟩
theorem Wr.tail_le {s : Disk.St} {P S : List Nat} (h : Wr s P S) : (tail_ s P S).length ≤ s.page - 10 := by
  have h1 := h.hi
  unfold tail_
  rw [List.length_drop]
  rcases Nat.eq_zero_or_pos P.length with e | e
  · rw [e] at h1 ⊢; simp at h1; simp [h1]
  · have : P.length * (s.page - 10) = (P.length - 1) * (s.page - 10) + (s.page - 10) := by rw [← Nat.succ_mul]; congr 1; omega
    omega
/-- Bytes are put behind, within the last page. -/
theorem Wr.put {s : Disk.St} {P S : List Nat} (h : Wr s P S) (b : List Nat) (hb : Oct b) (hP : 0 < P.length) (hfit : (tail_ s P S).length + b.length ≤ s.page - 10) : Wr s P (S ++ b) ∧ tail_ s P (S ++ b) = tail_ s P S ++ b := by
  have hlo := h.lo
  have hl : (tail_ s P S).length = S.length - (P.length - 1) * (s.page - 10) := by unfold tail_; simp
  have e : P.length * (s.page - 10) = (P.length - 1) * (s.page - 10) + (s.page - 10) := by rw [← Nat.succ_mul]; congr 1; omega
  refine ⟨⟨h.nodup, h.used, by simp; omega, by simp; omega, fun i hi => ?_, oct_append h.oct hb⟩, by unfold tail_; rw [List.drop_append_of_le_length hlo]⟩
  unfold Good
  rw [chunk_append _ _ _ _ (Nat.le_trans (Nat.mul_le_mul_right _ (by omega)) hlo)]
  exact h.good i hi
/-- The disk has turned elsewhere. -/
theorem Wr.keep {s s' : Disk.St} {P S : List Nat} (h : Wr s P S) (hp : s'.page = s.page) (k : ∀ n ∈ P, s'.pages.getD n none = s.pages.getD n none) : Wr s' P S := by
  have hm : ∀ i, i < P.length → P.getD i 0 ∈ P := fun i hi => by rw [List.getD_eq_getElem?_getD, List.getElem?_eq_getElem hi]; exact List.getElem_mem _
  refine ⟨h.nodup, fun n hn => by rw [Disk.used_congr (k n hn)]; exact h.used n hn, by rw [hp]; exact h.lo, by rw [hp]; exact h.hi, fun i hi => ?_, h.oct⟩
  unfold Good
  rw [hp, k _ (hm i (by omega))]
  exact h.good i hi
theorem getD_mem {P : List Nat} {i : Nat} (hi : i < P.length) : P.getD i 0 ∈ P := by rw [List.getD_eq_getElem?_getD, List.getElem?_eq_getElem hi]; exact List.getElem_mem _
theorem getD_inj {P : List Nat} (hn : P.Nodup) {i j : Nat} (hi : i < P.length) (hj : j < P.length) (h : P.getD i 0 = P.getD j 0) : i = j := by
  rw [List.getD_eq_getElem?_getD, List.getD_eq_getElem?_getD, List.getElem?_eq_getElem hi, List.getElem?_eq_getElem hj] at h
  exact (List.getElem_inj hn).1 h
/-- The first page is begun. -/
theorem Wr.first {s s' : Disk.St} {S : List Nat} {n : Nat} (h : Wr s [] S) (hu : Disk.used s'.pages n = true) : Wr s' [n] S := by
  have h1 := h.hi
  simp at h1
  subst h1
  exact ⟨by simp, by simpa using hu, by simp, by simp, fun i hi => by simp at hi, h.oct⟩
/-- A page is begun behind a full one, which is written. -/
theorem Wr.next {s s' : Disk.St} {P S : List Nat} {n : Nat} (h : Wr s P S) (hP : 0 < P.length) (hfull : (tail_ s P S).length = s.page - 10) (hp : s'.page = s.page) (hn : n ∉ P) (hu : Disk.used s'.pages n = true)
    (hl : s'.pages.getD (P.getD (P.length - 1) 0) none = some (closeB s.page (n + 1) (tail_ s P S))) (k : ∀ m ∈ P, m ≠ P.getD (P.length - 1) 0 → s'.pages.getD m none = s.pages.getD m none) : Wr s' (P ++ [n]) S ∧ tail_ s' (P ++ [n]) S = [] := by
  have hlo := h.lo
  have htl : (tail_ s P S).length = S.length - (P.length - 1) * (s.page - 10) := by unfold tail_; simp
  have e : P.length * (s.page - 10) = (P.length - 1) * (s.page - 10) + (s.page - 10) := by rw [← Nat.succ_mul]; congr 1; omega
  have hS : S.length = P.length * (s.page - 10) := by have := h.hi; omega
  have hpl : (P ++ [n]).length - 1 = P.length := by simp
  refine ⟨⟨?_, fun m hm => ?_, by rw [hpl, hp]; omega, by simp [hp, Nat.succ_mul]; omega, fun i hi => ?_, h.oct⟩, ?_⟩
  · rw [List.nodup_append]
    exact ⟨h.nodup, by simp, fun a ha b hb => by simp at hb; subst hb; exact fun e => hn (e ▸ ha)⟩
  · rcases List.mem_append.1 hm with hm | hm
    · by_cases e2 : m = P.getD (P.length - 1) 0
      · subst e2; exact Disk.used_of_getD hl
      · rw [Disk.used_congr (k m hm e2)]; exact h.used m hm
    · simp at hm; subst hm; exact hu
  · rw [List.length_append, List.length_singleton] at hi
    have hg : (P ++ [n]).getD i 0 = P.getD i 0 := by simp [List.getD_eq_getElem?_getD, List.getElem?_append_left (show i < P.length by omega)]
    unfold Good
    rw [hg, hp]
    by_cases e2 : i + 1 = P.length
    · have e3 : i = P.length - 1 := by omega
      rw [nextOf_snoc _ _ _ e2, e3, hl]
      congr 2
      unfold tail_ chunk
      rw [List.take_of_length_le (by rw [List.length_drop]; omega)]
    · rw [nextOf_append _ _ _ (by omega), k _ (getD_mem (by omega)) (fun e3 => e2 (by have := getD_inj h.nodup (by omega) (by omega) e3; omega))]
      exact h.good i (by omega)
  · unfold tail_; rw [hpl, hp, ← hS, List.drop_length]
/-- A tape's state: its pages P hold the bytes S; a page that was turned is told where nothing is planned. -/
def Torn (s : Disk.St) (P : List Nat) (i : Nat) : Prop := Disk.Calm s ∧ ∃ bs, s.pages.getD (P.getD i 0) none = some bs ∧ openB bs = (0, [], 18)
structure Tp (s : Disk.St) (P S : List Nat) : Prop where
  nodup : P.Nodup
  used : ∀ n ∈ P, Disk.used s.pages n = true
  len : P.length = need (s.page - 10) S.length
  page : ∀ i, i < P.length → Good s P S i ∨ Torn s P i
  oct : Oct S
/-- All pages are as they were sealed. -/
def Whole (s : Disk.St) (P S : List Nat) : Prop := ∀ i, i < P.length → Good s P S i
theorem Tp.keep {s s' : Disk.St} {P S : List Nat} (h : Tp s P S) (e : Disk.Same s s') (k : ∀ n ∈ P, s'.pages.getD n none = s.pages.getD n none) : Tp s' P S := by
  refine ⟨h.nodup, fun n hn => by rw [Disk.used_congr (k n hn)]; exact h.used n hn, by rw [e.page]; exact h.len, fun i hi => ?_, h.oct⟩
  rcases h.page i hi with g | ⟨c, bs, g, o⟩
  · exact .inl (by unfold Good; rw [e.page, k _ (getD_mem hi)]; exact g)
  · exact .inr ⟨e.calm c, bs, by rw [k _ (getD_mem hi)]; exact g, o⟩
theorem Whole.keep {s s' : Disk.St} {P S : List Nat} (h : Whole s P S) (e : s'.page = s.page) (k : ∀ n ∈ P, s'.pages.getD n none = s.pages.getD n none) : Whole s' P S := fun i hi => by
  unfold Good; rw [e, k _ (getD_mem hi)]; exact h i hi
/-- A tape that is closed. -/
theorem Wr.close {s s' : Disk.St} {P S : List Nat} (h : Wr s P S) (h10 : 10 < s.page) (tight : P = [] ∨ tail_ s P S ≠ []) (hp : s'.page = s.page)
    (hl : 0 < P.length → s'.pages.getD (P.getD (P.length - 1) 0) none = some (closeB s.page 0 (tail_ s P S))) (k : ∀ m ∈ P, m ≠ P.getD (P.length - 1) 0 → s'.pages.getD m none = s.pages.getD m none) : Tp s' P S ∧ Whole s' P S := by
  have hw : Whole s' P S := fun i hi => by
    unfold Good
    rw [hp]
    by_cases e2 : i + 1 = P.length
    · have e3 : i = P.length - 1 := by omega
      rw [nextOf_last _ _ e2, e3, hl (by omega)]
      congr 2
      unfold tail_ chunk
      have := h.tail_le
      unfold tail_ at this
      rw [List.take_of_length_le this]
    · rw [k _ (getD_mem hi) (fun e3 => e2 (by have := getD_inj h.nodup hi (by omega) e3; omega))]
      exact h.good i (by omega)
  refine ⟨⟨h.nodup, fun n hn => ?_, ?_, fun i hi => .inl (hw i hi), h.oct⟩, hw⟩
  · by_cases e : n = P.getD (P.length - 1) 0
    · subst e; exact Disk.used_of_getD (hl (List.length_pos_of_mem hn))
    · rw [Disk.used_congr (k n hn e)]; exact h.used n hn
  · rw [hp]
    refine need_of (by omega) h.hi ?_
    rcases tight with rfl | t
    · exact .inl rfl
    · refine .inr ?_
      have : (tail_ s P S).length ≠ 0 := fun e => t (List.eq_nil_of_length_eq_zero e)
      unfold tail_ at this
      rw [List.length_drop] at this
      omega
/-- What a page that is as it was sealed says. -/
theorem open_good {page next : Nat} {data : List Nat} (hp : pageOk page = true) (hn : next ≤ 16384) (hd : data.length + 10 ≤ page) (hb : Oct data) : openB (closeB page next data) = ((next : Int) - 1, data, 0) := open_close page next data hp hn hd hb
theorem sum_good {page next : Nat} {data : List Nat} (hd : data.length + 10 ≤ page) (hb : Oct data) :
    num ((closeB page next data).drop ((closeB page next data).length - 4)) = crc ((closeB page next data).take ((closeB page next data).length - 4)) := by
  have hl := length_closeB page next data hd
  have hlb := length_body page next data hd
  have hbb := oct_body page next data hb
  have e1 : (closeB page next data).drop (page - 4) = le (crc (body page next data)) 4 := by unfold closeB; rw [← hlb, List.drop_left]
  have e2 : (closeB page next data).take (page - 4) = body page next data := by unfold closeB; rw [← hlb, List.take_left]
  rw [hl, e1, e2, num_le]
  exact Nat.mod_eq_of_lt (crc_lt _ hbb)
theorem open_told {q : List Nat} (hp : pageOk q.length = true) (h : num (q.drop (q.length - 4)) ≠ crc (q.take (q.length - 4))) : openB q = (0, [], 18) := by
  unfold openB; rw [if_pos hp, if_neg h]
/-- A page whose lowest bit is turned says that the sum is another. -/
theorem open_turned {page next : Nat} {data : List Nat} (hp : pageOk page = true) (hd : data.length + 10 ≤ page) (hb : Oct data) :
    openB ((closeB page next data).set 0 ((closeB page next data).getD 0 0 ^^^ 1)) = (0, [], 18) := by
  have hl := length_closeB page next data hd
  have ho := oct_closeB page next data hb
  have hpb := pageOk_bounds hp
  have hn := num_turn (closeB page next data) 0 ho (by omega)
  have hq := oct_turn (closeB page next data) 0 ho (by omega)
  simp only [Nat.zero_div, Nat.zero_mod, Nat.pow_zero] at hn hq
  have hlen : ((closeB page next data).set 0 ((closeB page next data).getD 0 0 ^^^ 1)).length = page := by simp [hl]
  refine open_told (by rw [hlen]; exact hp) ?_
  refine told (closeB page next data) _ (by simp) ho hq (by omega) 1 0 (by decide) (by decide) (by omega) ?_ (sum_good hd hb)
  rw [hn]
  simp [← Nat.xor_assoc]
end Tape
end Go.Proofs.YtbkiahnljklhpaaDoor
