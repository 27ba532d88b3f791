/- A PEN: bytes put behind each other (memory; no walk). -/
import Derived.Test.YtdcfddiicclpeaaDoorKeyMath
import Derived.Test.YtdcfddiicclpeaaDoorWrote
import Derived.Test.YtdcfddiicclpeaaDoorBytesStr
import Derived.Test.YtdcfddiicclpeaaDoorBsonApp
import Derived.Lib.AppendStr
import Derived.OwnWalk
import Derived.WalkKit
namespace Go.Proofs.YtdcfddiicclpeaaDoor
open Go.RowKit
open Seal
open Bson (Val)
/-- Block gp is a pen, which has the bytes l, in a row of its own, v. -/
structure Pen (w : World) (gp base : Nat) (l : List Nat) (v : Value) : Prop where
  cell : w.heap[gp]? = some (.cells #[v] 64 (0, 0))
  own : w.ownsRow base 5 1 v l.length (u8s l)
  oct : Oct l
  ne : v.ownBlock ≠ some gp
  size : base ≤ w.heap.size
  at' : base ≤ gp
theorem oct_app' {a b : List Nat} (ha : Oct a) (hb : Oct b) : Oct (a ++ b) := fun c hc => by
  rcases List.mem_append.1 hc with h | h
  · exact ha c h
  · exact hb c h
/-- What is written: the pen, its row, new blocks; the row lies where it lay, or in a new block. -/
structure PMv (gp : Nat) (w w' : World) (v v' : Value) : Prop where
  os : w'.os = w.os
  tape : w'.tape = w.tape
  output : w'.output = w.output
  size : w.heap.size ≤ w'.heap.size
  block : ∀ k, k < w.heap.size → k ≠ gp → v.ownBlock ≠ some k → w'.heap[k]? = w.heap[k]?
  own : v'.ownBlock = v.ownBlock ∨ ∃ k, v'.ownBlock = some k ∧ w.heap.size ≤ k
theorem PMv.of_below {gp : Nat} {w w' : World} (v : Value) (hb : Below w.heap.size w w') : PMv gp w w' v v := ⟨hb.os, hb.tape, hb.output, hb.size, fun k hk _ _ => hb.block k hk, .inl rfl⟩
theorem PMv.trans {gp : Nat} {w w1 w2 : World} {v v1 v2 : Value} (h : PMv gp w w1 v v1) (h2 : PMv gp w1 w2 v1 v2) : PMv gp w w2 v v2 := by
  refine ⟨h2.os.trans h.os, h2.tape.trans h.tape, h2.output.trans h.output, Nat.le_trans h.size h2.size, fun k hk hne hno => ?_, ?_⟩
  · refine (h2.block k (Nat.lt_of_lt_of_le hk h.size) hne ?_).trans (h.block k hk hne hno)
    rcases h.own with e | ⟨j, e, hj⟩
    · rw [e]; exact hno
    · rw [e]; intro z; have := Option.some.inj z; omega
  · rcases h2.own with e | ⟨j, e, hj⟩
    · rw [e]; exact h.own
    · exact .inr ⟨j, e, Nat.le_trans h.size hj⟩
theorem PMv.below {gp base : Nat} {l : List Nat} {w w' : World} {v v' : Value} (h : PMv gp w w' v v') (hp : Pen w gp base l v) : Below base w w' :=
  ⟨h.os, h.tape, h.output, h.size, fun k hk => h.block k (Nat.lt_of_lt_of_le hk hp.size) (by have := hp.at'; omega) (fun e => by have := (owns_block hp.own e).1; omega)⟩
theorem Pen.lt {w : World} {gp base : Nat} {l : List Nat} {v : Value} (h : Pen w gp base l v) : gp < w.heap.size := (Array.getElem?_eq_some_iff.1 h.cell).1
theorem Pen.c0 {w : World} {gp base : Nat} {l : List Nat} {v : Value} (h : Pen w gp base l v) : w.cell? ⟨gp, 0, none⟩ = some v := cell_of_row w gp 0 _ _ _ h.cell
theorem Pen.f0 {w : World} {gp base : Nat} {l : List Nat} {v : Value} (h : Pen w gp base l v) : w.frozen? ⟨gp, 0, none⟩ = false := frozen_of_row w gp 0 _ _ h.cell
theorem Pen.keep {w w' : World} {gp base : Nat} {l : List Nat} {v : Value} (h : Pen w gp base l v) (hb : Below w.heap.size w w') : Pen w' gp base l v :=
  ⟨(hb.block gp h.lt).trans h.cell, owns_below h.own hb, h.oct, h.ne, Nat.le_trans h.size hb.size, h.at'⟩
theorem Pen.shape {w : World} {gp base : Nat} {l : List Nat} {v : Value} (h : Pen w gp base l v) : ∃ a c, v = .slice a l.length c := by
  obtain ⟨_, ⟨rfl, hn⟩ | ⟨g, cap, cur, rfl, _⟩⟩ := h.own
  · rw [hn]; exact ⟨_, _, rfl⟩
  · exact ⟨_, _, rfl⟩
/-- The row, where its block is as it was. -/
theorem owns_same {w w' : World} {base : Nat} {e : TypeId} {size : Nat} {v : Value} {n : Nat} {xs : List Value} (h : w.ownsRow base e size v n xs) (hb : ∀ g, v.ownBlock = some g → w'.heap[g]? = w.heap[g]?) : w'.ownsRow base e size v n xs := by
  obtain ⟨h1, h2 | ⟨g, cap, cur, rfl, hg, hrow, h3⟩⟩ := h
  · exact ⟨h1, .inl h2⟩
  · exact ⟨h1, .inr ⟨g, cap, cur, rfl, hg, (hb g rfl).trans hrow, h3⟩⟩
/-- Behind an append to the row the pen's cell is as it was. -/
theorem Pen.wrote {w w' : World} {gp base : Nat} {l : List Nat} {v v' : Value} (h : Pen w gp base l v) (hw : Wrote w w' v v') : w'.cell? ⟨gp, 0, none⟩ = some v ∧ w'.frozen? ⟨gp, 0, none⟩ = false := by
  have hc := (hw.1.block gp h.lt (fun e => h.ne e.symm)).trans h.cell
  exact ⟨cell_of_row w' gp 0 _ _ _ hc, frozen_of_row w' gp 0 _ _ hc⟩
/-- Behind the store of what was appended to. -/
theorem Pen.app {w w' : World} {gp base n : Nat} {l add : List Nat} {v v' : Value} (h : Pen w gp base l v) (hw : Wrote w w' v v') (hown : w'.ownsRow base 5 1 v' n (u8s (l ++ add))) (ho : Oct add) :
    Pen (w'.setCell ⟨gp, 0, none⟩ v') gp base (l ++ add) v' ∧ PMv gp w (w'.setCell ⟨gp, 0, none⟩ v') v v' := by
  have hc := (hw.1.block gp h.lt (fun e => h.ne e.symm)).trans h.cell
  have hne : v'.ownBlock ≠ some gp := by
    rcases hw.2 with e | ⟨k, e, hk⟩
    · rw [e]; exact h.ne
    · rw [e]; intro z; have := Option.some.inj z; have := h.lt; omega
  have hn : n = (l ++ add).length := by have := hown.1; simp [u8s] at this; rw [List.length_append]; omega
  subst hn
  have hsz : (w'.setCell ⟨gp, 0, none⟩ v').heap.size = w'.heap.size := by simp [World.setCell]
  refine ⟨⟨?_, owns_same hown (fun g hg => Below.heap_setCell _ _ _ _ (fun e => hne (by rw [hg, e]))), oct_app' h.oct ho, hne, ?_, h.at'⟩, ⟨hw.1.os, hw.1.tape, hw.1.output, ?_, fun k hk hk1 hk2 => ?_, hw.2⟩⟩
  · rw [heap_setCell_same w' gp 0 _ _ _ hc]; simp
  · rw [hsz]; exact Nat.le_trans h.size hw.1.size
  · rw [hsz]; exact hw.1.size
  · rw [Below.heap_setCell _ _ _ _ hk1]
    exact hw.1.block k hk (fun e => hk2 e.symm)
section
variable {P : Program}
/-- An append of which it is known what it yields, as one step of a region that draws. -/
theorem step_run_append {ops : Array Oper} {o : Oper} {a : Act} {w : World} {K : Act → World → Prop} {Q : Exit → Act → World → Prop} {E : Prop}
    (hg : o.guard = none) (s x : Operand) (t u : TypeId) (ho : o.op = .call { callee := .builtin .append, args := #[s, x], argTypes := #[t, u] }) (vs vx v' : Value) (w' : World)
    (hs : a.eval s = vs) (hx : a.eval x = vx) (hr : (Builtin.append_ #[t, u] o.type #[vs, vx]).run P w = .ok v' w') (h : K (a.put o.dst v') w') :
    if Region.wanted o (yielded ops a.tmps) = true then Oper.wp P o a w K Q else E := by
  have hw : Region.wanted o (yielded ops a.tmps) = true := by simp [Region.wanted, hg]
  rw [if_pos hw]
  unfold Oper.wp execOp
  simp only [ho, resolve, invoke, builtin, Sem.run_bind, Sem.run_pure, Result.andThen_ok, List.map_toArray, List.map_cons, List.map_nil, hs, hx, hr]
  exact h
theorem wpList_run_append {w : World} {ops : Array Oper} {rest : List Oper} {o : Oper} {a : Act} {Q : Exit → Act → World → Prop} (hgd : o.guard = none) (s x : Operand) (t u : TypeId)
    (ho : o.op = .call { callee := .builtin .append, args := #[s, x], argTypes := #[t, u] }) (vs vx v' : Value) (w' : World)
    (hs : a.eval s = vs) (hx : a.eval x = vx) (hr : (Builtin.append_ #[t, u] o.type #[vs, vx]).run P w = .ok v' w') (h : wpList P ops Q rest (a.put o.dst v') w') : wpList P ops Q (o :: rest) a w := by
  refine wpList_plain hgd fun K hK => ?_
  unfold Oper.wp execOp
  simp only [ho, resolve, invoke, builtin, Sem.run_bind, Sem.run_pure, Result.andThen_ok, List.map_toArray, List.map_cons, List.map_nil, hs, hx, hr]
  exact hK _ _ h
/-- A string's bytes appended, with a word on where the result lies. -/
theorem run_append_str_or (w : World) (base : Nat) (t u ty e : TypeId) (i : TypeInfo) (ht : P.underlying t = some (.slice e)) (hu : P.underlying u = some .string) (hi : P.info? e = some i) (hz : i.zero = some (.int .u8 0))
    (hsize : i.size = 1) (hby : i.bytes = 1) (v : Value) (n : Nat) (xs : List Value) (hown : w.ownsRow base e 1 v n xs) (s : ByteArray)
    (h63 : n + s.size ≤ maxLen) (hbytes : n + s.size ≤ 140737488355328) (hbase : base ≤ w.heap.size) :
    ∃ v' w', (Builtin.append_ #[t, u] ty #[v, .string s]).run P w = .ok v' w' ∧ w'.ownsRow base e 1 v' (n + s.size) (xs ++ Lib.strCells s) ∧ Wrote w w' v v' := by
  obtain ⟨v', w', hr, h2, h3, _⟩ := Lib.run_append_own_string (P := P) w base t u ty e i ht hu hi hz hsize hby v n xs hown s h63 hbytes hbase
  refine ⟨v', w', hr, h2, h3, ?_⟩
  have hown' := hown
  obtain ⟨hl, ⟨rfl, rfl⟩ | ⟨g, cap, cur, rfl, hbg, hrow, hc, hm, hsz, htake⟩⟩ := hown
  · obtain ⟨v2, w2, hr2, h4, _⟩ := Lib.run_append_own_string (P := P) w w.heap.size t u ty e i ht hu hi hz hsize hby (.slice none 0 0) 0 xs ⟨hl, .inl ⟨rfl, rfl⟩⟩ s h63 hbytes (Nat.le_refl _)
    rw [hr] at hr2
    cases hr2
    cases hb : v'.ownBlock with
    | none => exact .inl rfl
    | some k => exact .inr ⟨k, rfl, (owns_block h4 hb).1⟩
  · by_cases hroom : n + s.size ≤ cap
    · have hr2 := Lib.run_append_room_string (P := P) w t u ty e i ht hu hi hsize g n cap cur hrow s hroom (by rw [hsz]; omega)
      rw [hr] at hr2
      cases hr2
      exact .inl rfl
    · have hr2 := Lib.run_append_grow_string (P := P) w t u ty e i (.int .u8 0) ht hu hi hz ⟨g, 0, none⟩ n cap xs (by rw [hsize]; exact hl) (hown'.cells (g := g) rfl) s (by omega) (by simp only [maxLen] at h63; omega) (growslice_fits (by omega) (by rw [hby]; omega))
      rw [hr] at hr2
      cases hr2
      exact .inr ⟨_, rfl, Nat.le_refl _⟩
/-- A row's elements appended, whatever its address. -/
theorem run_src_or (w : World) (base : Nat) (t ty e : TypeId) (i : TypeInfo) (z : Value) (size bytes : Nat) (ht : P.underlying t = some (.slice e)) (hi : P.info? e = some i) (hz : i.zero = some z)
    (hsize : i.size = size) (hby : i.bytes = bytes) (hzs : z.cells.size = size) (hsz : 0 < size) (v : Value) (n : Nat) (xs : List Value) (hown : w.ownsRow base e size v n xs)
    (a : Option Addr) (m c : Nat) (news : List Value) (hs : Src w a m news) (hl : news.length = m * size) (h1 : ∀ u ∈ news, u.oneCell' = true)
    (h63 : n + m ≤ maxLen) (hbytes : (n + m) * bytes ≤ 140737488355328) (hbase : base ≤ w.heap.size) :
    ∃ v' w', (Builtin.append_ #[t, t] ty #[v, .slice a m c]).run P w = .ok v' w' ∧ w'.ownsRow base e size v' (n + m) (xs ++ news) ∧ Wrote w w' v v' := by
  obtain ⟨v', w', hr, h2, h3⟩ := run_src (P := P) w base t ty e i z size bytes ht hi hz hsize hby hzs hsz v n xs hown a m c news hs hl h1 h63 hbytes hbase
  refine ⟨v', w', hr, h2, h3, ?_⟩
  have hown' := hown
  obtain ⟨hxl, ⟨rfl, rfl⟩ | ⟨g, cap, cur, rfl, hbg, hrow, hc, hm, hsz', htake⟩⟩ := hown
  · obtain ⟨v2, w2, hr2, h4, _⟩ := run_src (P := P) w w.heap.size t ty e i z size bytes ht hi hz hsize hby hzs hsz (.slice none 0 0) 0 xs ⟨hxl, .inl ⟨rfl, rfl⟩⟩ a m c news hs hl h1 h63 hbytes (Nat.le_refl _)
    rw [hr] at hr2
    cases hr2
    cases hb : v'.ownBlock with
    | none => exact .inl rfl
    | some k => exact .inr ⟨k, rfl, (owns_block h4 hb).1⟩
  · cases a with
    | none =>
      obtain rfl : m = 0 := hs.1 rfl
      have hr2 := run_none (P := P) w base t ty e i ht hi c _ n xs (by rw [hsize]; exact hown')
      rw [hr] at hr2
      cases hr2
      exact .inl rfl
    | some ad =>
      by_cases hroom : n + m ≤ cap
      · obtain ⟨w2, hr2, _⟩ := run_append_fits (P := P) w base t ty e i size ht hi hsize g n cap xs hown' ad m c news hl (hs.2 ad rfl) h1 hroom
        rw [hr] at hr2
        cases hr2
        exact .inl rfl
      · have hr2 := run_append_grow (P := P) w t ty e i z ht hi hz ⟨g, 0, none⟩ n cap xs (by rw [hsize]; exact hxl) (hown'.cells (g := g) rfl) ad m c news (by rw [hsize]; exact hl) (hs.2 ad rfl) (by omega) (by simp only [maxLen] at h63; omega) (growslice_fits (by omega) (by rw [hby]; exact hbytes))
        rw [hr] at hr2
        cases hr2
        exact .inr ⟨_, rfl, Nat.le_refl _⟩
end
end Go.Proofs.YtdcfddiicclpeaaDoor
