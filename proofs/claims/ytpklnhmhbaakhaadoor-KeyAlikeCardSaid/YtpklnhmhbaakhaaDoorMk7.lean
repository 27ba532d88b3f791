/- ValLets, KeyLegal, KeyPen, KeyRows. -/
import Derived.Lib.AppendStr
import Derived.OwnWalk
import Derived.WalkKit
import Derived.Test.YtpklnhmhbaakhaaDoorMk5
import Derived.Test.YtpklnhmhbaakhaaDoorMk6
import Derived.Test.YtpklnhmhbaakhaaDoorMk4
import Derived.Test.YtpklnhmhbaakhaaDoorMk0
set_option maxRecDepth 100000
section
namespace Go.Proofs.YtpklnhmhbaakhaaDoor
open Go.RowKit
open Seal
open Bson (Val)
/-- What is read lies in blocks that are there. -/
theorem VIn.lt {w : World} {Q : Nat → Prop} : ∀ {h : Nat} {x : Val} {v : Value}, VIn w Q h x v → VIn w (fun g => Q g ∧ g < w.heap.size) h x v
  | 0, _, _, h => h.elim
  | h + 1, x, v, ⟨ba, fa, la, bc, fc, lc, e, h1, h2, h3, h4, hB, hF, hI⟩ => by
    refine ⟨ba, fa, la, bc, fc, lc, e, h1, h2, h3, h4, ?_, ?_, ?_⟩
    · rcases hB with hB | ⟨g, o, e, hq, hr⟩
      · exact .inl hB
      · cases hx : x.b with
        | nil => exact .inl rfl
        | cons c r =>
          have := hr 0 (by rw [hx]; simp)
          exact .inr ⟨g, o, e, ⟨hq, World.block_lt_of_cell? w _ this⟩, by rw [← hx]; exact hr⟩
    · rcases hF with hF | ⟨g, o, e, hq, hr⟩
      · exact .inl hF
      · cases hx : x.f with
        | nil => exact .inl rfl
        | cons c r =>
          have h0 := (hr 0 (by rw [hx]; simp)).1
          refine .inr ⟨g, o, e, ⟨hq, World.block_lt_of_cell? w _ h0⟩, ?_⟩
          rw [← hx]
          intro i hi
          obtain ⟨a1, a2, v, a3, a4⟩ := hr i hi
          exact ⟨a1, a2, v, a3, VIn.lt a4⟩
    · rcases hI with hI | ⟨g, o, e, hq, hr⟩
      · exact .inl hI
      · cases hx : x.l with
        | nil => exact .inl rfl
        | cons c r =>
          obtain ⟨v0, h0, _⟩ := hr 0 (by rw [hx]; simp)
          obtain ⟨_, _, _, _, _, _, _, hc, _⟩ := h0
          refine .inr ⟨g, o, e, ⟨hq, World.block_lt_of_cell? w _ hc⟩, ?_⟩
          rw [← hx]
          intro i hi
          obtain ⟨v, a3, a4⟩ := hr i hi
          exact ⟨v, a3, VIn.lt a4⟩
theorem VIn.letters {w : World} {Q : Nat → Prop} {h : Nat} {x : Val} {v : Value} (hv : VIn w Q (h + 1) x v) :
    ∃ (xk xn : Int) (xs : ByteArray) (ba fa la : Option Addr) (bn bc fn fc ln lc : Nat), v = .agg #[.int .i64 xk, .int .i64 xn, .string xs, .slice ba bn bc, .slice fa fn fc, .slice la ln lc] ∧
      xk = x.kind ∧ xn = x.n ∧ xs = x.s ∧ bn = x.b.length ∧ fn = x.f.length ∧ ln = x.l.length ∧ Lim x ∧ FieldsIn w Q (VIn w Q h) fa x.f ∧ ItemsIn w Q (VIn w Q h) la x.l := by
  obtain ⟨ba, fa, la, bc, fc, lc, rfl, hL, _, _, _, _, hF, hI⟩ := hv
  exact ⟨_, _, _, ba, fa, la, _, bc, _, fc, _, lc, rfl, rfl, rfl, rfl, rfl, rfl, rfl, hL, hF, hI⟩
theorem zero_in (w : World) (Q : Nat → Prop) : VIn w Q 1 Bson.zero (.agg #[.int .i64 0, .int .i64 0, .string ⟨#[]⟩, .slice none 0 0, .slice none 0 0, .slice none 0 0]) :=
  ⟨none, none, none, 0, 0, 0, rfl, ⟨by show (-9223372036854775808 : Int) ≤ 0; omega, by show (0 : Int) ≤ _; omega, by show (-9223372036854775808 : Int) ≤ 0; omega, by show (0 : Int) ≤ _; omega, by show (0 : Nat) ≤ _; omega, by show (0 : Nat) ≤ _; omega, by show (0 : Nat) ≤ _; omega, by show (0 : Nat) ≤ _; omega, fun c hc => by cases hc⟩, ⟨Nat.le_refl _, by omega⟩, ⟨Nat.le_refl _, by omega⟩, ⟨Nat.le_refl _, by omega⟩, .inl rfl, .inl rfl, .inl rfl⟩
theorem str_ne {s t : ByteArray} (h : ¬ s = t) : (s.toList == t.toList) = false := by
  rw [beq_eq_false_iff_ne]
  intro e
  rw [ByteArray.toList_eq, ByteArray.toList_eq] at e
  apply h
  obtain ⟨⟨a⟩⟩ := s
  obtain ⟨⟨b⟩⟩ := t
  simp only at e
  rw [e]
/-- What a function that answers a value leaves: the value, and nothing old has turned. -/
def ValPost (Q : Nat → Prop) (w : World) (h : Nat) (x : Val) (e : Ending) (w' : World) : Prop := ∃ v', e = .returned v' ∧ VIn w' Q h x v' ∧ Below w.heap.size w w'
theorem below_dr {B : Nat} {a w : World} (h : Below B a w) (n : Nat) : Below B a (w.drewN n) := ⟨h.os, h.tape, h.output, h.size, h.block⟩
end Go.Proofs.YtpklnhmhbaakhaaDoor
end
section
namespace Key
open Bson (Val)
def legal : Nat → Val → Prop
  | 0, x => (1 ≤ x.kind ∧ x.kind ≤ 12) ∧ x.kind ≠ 6 ∧ x.kind ≠ 7
  | L + 1, x => (1 ≤ x.kind ∧ x.kind ≤ 12) ∧ (x.kind = 6 → ∀ p ∈ x.f, legal L p.2) ∧ (x.kind = 7 → ∀ v ∈ x.l, legal L v)
theorem legal_leaf {x : Val} (hk : 1 ≤ x.kind ∧ x.kind ≤ 12) (h6 : x.kind ≠ 6) (h7 : x.kind ≠ 7) : ∀ L, legal L x
  | 0 => ⟨hk, h6, h7⟩
  | _ + 1 => ⟨hk, fun e => absurd e h6, fun e => absurd e h7⟩
theorem legal.kind {x : Val} : ∀ {L : Nat}, legal L x → 1 ≤ x.kind ∧ x.kind ≤ 12
  | 0, h => h.1
  | _ + 1, h => h.1
theorem legal.fits : ∀ {L : Nat} {x : Val}, legal L x → Key.fits L x
  | 0, _, h => h.2
  | _ + 1, _, h => ⟨fun e p hp => (h.2.1 e p hp).fits, fun e v hv => (h.2.2 e v hv).fits⟩
end Key
end
section
namespace Go.Proofs.YtpklnhmhbaakhaaDoor
open Go.RowKit
open Seal
open Bson (Val)
/-- Block gp is a pen, which has the bytes l, in a row of its own, v. -/
structure Pen (w : World) (gp base : Nat) (l : List Nat) (v : Value) : Prop where
  cell : w.heap[gp]? = some (.cells #[v] 71 (0, 0))
  own : w.ownsRow base 5 1 v l.length (u8s l)
  oct : Oct l
  ne : v.ownBlock ≠ some gp
  size : base ≤ w.heap.size
  at' : base ≤ gp
theorem oct_app' {a b : List Nat} (ha : Oct a) (hb : Oct b) : Oct (a ++ b) := fun c hc => by
  rcases List.mem_append.1 hc with h | h
  · exact ha c h
  · exact hb c h
/-- What is written: the pen, its row, new blocks; the row lies where it lay, or in a new block. -/
structure PMv (gp : Nat) (w w' : World) (v v' : Value) : Prop where
  os : w'.os = w.os
  tape : w'.tape = w.tape
  output : w'.output = w.output
  size : w.heap.size ≤ w'.heap.size
  block : ∀ k, k < w.heap.size → k ≠ gp → v.ownBlock ≠ some k → w'.heap[k]? = w.heap[k]?
  own : v'.ownBlock = v.ownBlock ∨ ∃ k, v'.ownBlock = some k ∧ w.heap.size ≤ k
theorem PMv.of_below {gp : Nat} {w w' : World} (v : Value) (hb : Below w.heap.size w w') : PMv gp w w' v v := ⟨hb.os, hb.tape, hb.output, hb.size, fun k hk _ _ => hb.block k hk, .inl rfl⟩
theorem PMv.trans {gp : Nat} {w w1 w2 : World} {v v1 v2 : Value} (h : PMv gp w w1 v v1) (h2 : PMv gp w1 w2 v1 v2) : PMv gp w w2 v v2 := by
  refine ⟨h2.os.trans h.os, h2.tape.trans h.tape, h2.output.trans h.output, Nat.le_trans h.size h2.size, fun k hk hne hno => ?_, ?_⟩
  · refine (h2.block k (Nat.lt_of_lt_of_le hk h.size) hne ?_).trans (h.block k hk hne hno)
    rcases h.own with e | ⟨j, e, hj⟩
    · rw [e]; exact hno
    · rw [e]; intro z; have := Option.some.inj z; omega
  · rcases h2.own with e | ⟨j, e, hj⟩
    · rw [e]; exact h.own
    · exact .inr ⟨j, e, Nat.le_trans h.size hj⟩
theorem PMv.below {gp base : Nat} {l : List Nat} {w w' : World} {v v' : Value} (h : PMv gp w w' v v') (hp : Pen w gp base l v) : Below base w w' :=
  ⟨h.os, h.tape, h.output, h.size, fun k hk => h.block k (Nat.lt_of_lt_of_le hk hp.size) (by have := hp.at'; omega) (fun e => by have := (owns_block hp.own e).1; omega)⟩
theorem Pen.lt {w : World} {gp base : Nat} {l : List Nat} {v : Value} (h : Pen w gp base l v) : gp < w.heap.size := (Array.getElem?_eq_some_iff.1 h.cell).1
theorem Pen.c0 {w : World} {gp base : Nat} {l : List Nat} {v : Value} (h : Pen w gp base l v) : w.cell? ⟨gp, 0, none⟩ = some v := cell_of_row w gp 0 _ _ _ h.cell
theorem Pen.f0 {w : World} {gp base : Nat} {l : List Nat} {v : Value} (h : Pen w gp base l v) : w.frozen? ⟨gp, 0, none⟩ = false := frozen_of_row w gp 0 _ _ h.cell
theorem Pen.keep {w w' : World} {gp base : Nat} {l : List Nat} {v : Value} (h : Pen w gp base l v) (hb : Below w.heap.size w w') : Pen w' gp base l v :=
  ⟨(hb.block gp h.lt).trans h.cell, owns_below h.own hb, h.oct, h.ne, Nat.le_trans h.size hb.size, h.at'⟩
theorem Pen.shape {w : World} {gp base : Nat} {l : List Nat} {v : Value} (h : Pen w gp base l v) : ∃ a c, v = .slice a l.length c := by
  obtain ⟨_, ⟨rfl, hn⟩ | ⟨g, cap, cur, rfl, _⟩⟩ := h.own
  · rw [hn]; exact ⟨_, _, rfl⟩
  · exact ⟨_, _, rfl⟩
/-- Behind an append to the row the pen's cell is as it was. -/
theorem Pen.wrote {w w' : World} {gp base : Nat} {l : List Nat} {v v' : Value} (h : Pen w gp base l v) (hw : Wrote w w' v v') : w'.cell? ⟨gp, 0, none⟩ = some v ∧ w'.frozen? ⟨gp, 0, none⟩ = false := by
  have hc := (hw.1.block gp h.lt (fun e => h.ne e.symm)).trans h.cell
  exact ⟨cell_of_row w' gp 0 _ _ _ hc, frozen_of_row w' gp 0 _ _ hc⟩
/-- Behind the store of what was appended to. -/
theorem Pen.app {w w' : World} {gp base n : Nat} {l add : List Nat} {v v' : Value} (h : Pen w gp base l v) (hw : Wrote w w' v v') (hown : w'.ownsRow base 5 1 v' n (u8s (l ++ add))) (ho : Oct add) :
    Pen (w'.setCell ⟨gp, 0, none⟩ v') gp base (l ++ add) v' ∧ PMv gp w (w'.setCell ⟨gp, 0, none⟩ v') v v' := by
  have hc := (hw.1.block gp h.lt (fun e => h.ne e.symm)).trans h.cell
  have hne : v'.ownBlock ≠ some gp := by
    rcases hw.2 with e | ⟨k, e, hk⟩
    · rw [e]; exact h.ne
    · rw [e]; intro z; have := Option.some.inj z; have := h.lt; omega
  have hn : n = (l ++ add).length := by have := hown.1; simp [u8s] at this; rw [List.length_append]; omega
  subst hn
  have hsz : (w'.setCell ⟨gp, 0, none⟩ v').heap.size = w'.heap.size := by simp [World.setCell]
  refine ⟨⟨?_, owns_same hown (fun g hg => Below.heap_setCell _ _ _ _ (fun e => hne (by rw [hg, e]))), oct_app' h.oct ho, hne, ?_, h.at'⟩, ⟨hw.1.os, hw.1.tape, hw.1.output, ?_, fun k hk hk1 hk2 => ?_, hw.2⟩⟩
  · rw [heap_setCell_same w' gp 0 _ _ _ hc]; simp
  · rw [hsz]; exact Nat.le_trans h.size hw.1.size
  · rw [hsz]; exact hw.1.size
  · rw [Below.heap_setCell _ _ _ _ hk1]
    exact hw.1.block k hk (fun e => hk2 e.symm)
section
variable {P : Program}
/-- An append of which it is known what it yields, as one step of a region that draws. -/
theorem step_run_append {ops : Array Oper} {o : Oper} {a : Act} {w : World} {K : Act → World → Prop} {Q : Exit → Act → World → Prop} {E : Prop}
    (hg : o.guard = none) (s x : Operand) (t u : TypeId) (ho : o.op = .call { callee := .builtin .append, args := #[s, x], argTypes := #[t, u] }) (vs vx v' : Value) (w' : World)
    (hs : a.eval s = vs) (hx : a.eval x = vx) (hr : (Builtin.append_ #[t, u] o.type #[vs, vx]).run P w = .ok v' w') (h : K (a.put o.dst v') w') :
    if Region.wanted o (yielded ops a.tmps) = true then Oper.wp P o a w K Q else E := by
  have hw : Region.wanted o (yielded ops a.tmps) = true := by simp [Region.wanted, hg]
  rw [if_pos hw]
  unfold Oper.wp execOp
  simp only [ho, resolve, invoke, builtin, Sem.run_bind, Sem.run_pure, Result.andThen_ok, List.map_toArray, List.map_cons, List.map_nil, hs, hx, hr]
  exact h
theorem wpList_run_append {w : World} {ops : Array Oper} {rest : List Oper} {o : Oper} {a : Act} {Q : Exit → Act → World → Prop} (hgd : o.guard = none) (s x : Operand) (t u : TypeId)
    (ho : o.op = .call { callee := .builtin .append, args := #[s, x], argTypes := #[t, u] }) (vs vx v' : Value) (w' : World)
    (hs : a.eval s = vs) (hx : a.eval x = vx) (hr : (Builtin.append_ #[t, u] o.type #[vs, vx]).run P w = .ok v' w') (h : wpList P ops Q rest (a.put o.dst v') w') : wpList P ops Q (o :: rest) a w := by
  refine wpList_plain hgd fun K hK => ?_
  unfold Oper.wp execOp
  simp only [ho, resolve, invoke, builtin, Sem.run_bind, Sem.run_pure, Result.andThen_ok, List.map_toArray, List.map_cons, List.map_nil, hs, hx, hr]
  exact hK _ _ h
/-- A string's bytes appended, with a word on where the result lies. -/
theorem run_append_str_or (w : World) (base : Nat) (t u ty e : TypeId) (i : TypeInfo) (ht : P.underlying t = some (.slice e)) (hu : P.underlying u = some .string) (hi : P.info? e = some i) (hz : i.zero = some (.int .u8 0))
    (hsize : i.size = 1) (hby : i.bytes = 1) (v : Value) (n : Nat) (xs : List Value) (hown : w.ownsRow base e 1 v n xs) (s : ByteArray)
    (h63 : n + s.size ≤ maxLen) (hbytes : n + s.size ≤ 140737488355328) (hbase : base ≤ w.heap.size) :
    ∃ v' w', (Builtin.append_ #[t, u] ty #[v, .string s]).run P w = .ok v' w' ∧ w'.ownsRow base e 1 v' (n + s.size) (xs ++ Lib.strCells s) ∧ Wrote w w' v v' := by
  obtain ⟨v', w', hr, h2, h3, _⟩ := Lib.run_append_own_string (P := P) w base t u ty e i ht hu hi hz hsize hby v n xs hown s h63 hbytes hbase
  refine ⟨v', w', hr, h2, h3, ?_⟩
  have hown' := hown
  obtain ⟨hl, ⟨rfl, rfl⟩ | ⟨g, cap, cur, rfl, hbg, hrow, hc, hm, hsz, htake⟩⟩ := hown
  · obtain ⟨v2, w2, hr2, h4, _⟩ := Lib.run_append_own_string (P := P) w w.heap.size t u ty e i ht hu hi hz hsize hby (.slice none 0 0) 0 xs ⟨hl, .inl ⟨rfl, rfl⟩⟩ s h63 hbytes (Nat.le_refl _)
    rw [hr] at hr2
    cases hr2
    cases hb : v'.ownBlock with
    | none => exact .inl rfl
    | some k => exact .inr ⟨k, rfl, (owns_block h4 hb).1⟩
  · by_cases hroom : n + s.size ≤ cap
    · have hr2 := Lib.run_append_room_string (P := P) w t u ty e i ht hu hi hsize g n cap cur hrow s hroom (by rw [hsz]; omega)
      rw [hr] at hr2
      cases hr2
      exact .inl rfl
    · have hr2 := Lib.run_append_grow_string (P := P) w t u ty e i (.int .u8 0) ht hu hi hz ⟨g, 0, none⟩ n cap xs (by rw [hsize]; exact hl) (hown'.cells (g := g) rfl) s (by omega) (by simp only [maxLen] at h63; omega) (growslice_fits (by omega) (by rw [hby]; omega))
      rw [hr] at hr2
      cases hr2
      exact .inr ⟨_, rfl, Nat.le_refl _⟩
/-- A row's elements appended, whatever its address. -/
theorem run_src_or (w : World) (base : Nat) (t ty e : TypeId) (i : TypeInfo) (z : Value) (size bytes : Nat) (ht : P.underlying t = some (.slice e)) (hi : P.info? e = some i) (hz : i.zero = some z)
    (hsize : i.size = size) (hby : i.bytes = bytes) (hzs : z.cells.size = size) (hsz : 0 < size) (v : Value) (n : Nat) (xs : List Value) (hown : w.ownsRow base e size v n xs)
    (a : Option Addr) (m c : Nat) (news : List Value) (hs : Src w a m news) (hl : news.length = m * size) (h1 : ∀ u ∈ news, u.oneCell' = true)
    (h63 : n + m ≤ maxLen) (hbytes : (n + m) * bytes ≤ 140737488355328) (hbase : base ≤ w.heap.size) :
    ∃ v' w', (Builtin.append_ #[t, t] ty #[v, .slice a m c]).run P w = .ok v' w' ∧ w'.ownsRow base e size v' (n + m) (xs ++ news) ∧ Wrote w w' v v' := by
  obtain ⟨v', w', hr, h2, h3⟩ := run_src (P := P) w base t ty e i z size bytes ht hi hz hsize hby hzs hsz v n xs hown a m c news hs hl h1 h63 hbytes hbase
  refine ⟨v', w', hr, h2, h3, ?_⟩
  have hown' := hown
  obtain ⟨hxl, ⟨rfl, rfl⟩ | ⟨g, cap, cur, rfl, hbg, hrow, hc, hm, hsz', htake⟩⟩ := hown
  · obtain ⟨v2, w2, hr2, h4, _⟩ := run_src (P := P) w w.heap.size t ty e i z size bytes ht hi hz hsize hby hzs hsz (.slice none 0 0) 0 xs ⟨hxl, .inl ⟨rfl, rfl⟩⟩ a m c news hs hl h1 h63 hbytes (Nat.le_refl _)
    rw [hr] at hr2
    cases hr2
    cases hb : v'.ownBlock with
    | none => exact .inl rfl
    | some k => exact .inr ⟨k, rfl, (owns_block h4 hb).1⟩
  · cases a with
    | none =>
      obtain rfl : m = 0 := hs.1 rfl
      have hr2 := run_none (P := P) w base t ty e i ht hi c _ n xs (by rw [hsize]; exact hown')
      rw [hr] at hr2
      cases hr2
      exact .inl rfl
    | some ad =>
      by_cases hroom : n + m ≤ cap
      · obtain ⟨w2, hr2, _⟩ := run_append_fits (P := P) w base t ty e i size ht hi hsize g n cap xs hown' ad m c news hl (hs.2 ad rfl) h1 hroom
        rw [hr] at hr2
        cases hr2
        exact .inl rfl
      · have hr2 := run_append_grow (P := P) w t ty e i z ht hi hz ⟨g, 0, none⟩ n cap xs (by rw [hsize]; exact hxl) (hown'.cells (g := g) rfl) ad m c news (by rw [hsize]; exact hl) (hs.2 ad rfl) (by omega) (by simp only [maxLen] at h63; omega) (growslice_fits (by omega) (by rw [hby]; exact hbytes))
        rw [hr] at hr2
        cases hr2
        exact .inr ⟨_, rfl, Nat.le_refl _⟩
end
end Go.Proofs.YtpklnhmhbaakhaaDoor
end
section
namespace Go.Proofs.YtpklnhmhbaakhaaDoor
open Go.RowKit
open Bson (Val)
open Key
/-- All bytes are bytes. -/
def OctsIn : Nat → Val → Prop
  | 0, x => ∀ c ∈ x.b, c < 256
  | L + 1, x => (∀ c ∈ x.b, c < 256) ∧ (∀ p ∈ x.f, OctsIn L p.2) ∧ ∀ v ∈ x.l, OctsIn L v
theorem OctsIn.here {L : Nat} {x : Val} (h : OctsIn L x) : ∀ c ∈ x.b, c < 256 := by
  cases L with
  | zero => exact h
  | succ L => exact h.1
theorem be_oct (n : Nat) : ∀ k, ∀ c ∈ be n k, c < 256
  | 0, c, h => by cases h
  | k + 1, c, h => by
    rcases List.mem_cons.1 h with e | h
    · rw [e]; exact Nat.mod_lt _ (by decide)
    · exact be_oct n k c h
theorem esc_oct : ∀ l : List Nat, (∀ c ∈ l, c < 256) → ∀ c ∈ esc l, c < 256
  | [], _, c, h => by cases h
  | x :: r, hl, c, h => by
    rw [esc_cons] at h
    have ih := esc_oct r (fun y hy => hl y (by simp [hy]))
    split at h
    · rcases List.mem_cons.1 h with e | h
      · omega
      · rcases List.mem_cons.1 h with e | h
        · omega
        · exact ih c h
    · rcases List.mem_cons.1 h with e | h
      · rw [e]; exact hl x (by simp)
      · exact ih c h
theorem text_oct (l : List Nat) (hl : ∀ c ∈ l, c < 256) : ∀ c ∈ textB l, c < 256 := fun c h => by
  rcases List.mem_append.1 h with h | h
  · exact esc_oct l hl c h
  · simp at h; omega
theorem bytes_oct (s : ByteArray) : ∀ c ∈ Order.bytes s, c < 256 := fun c hc => by
  obtain ⟨b, _, rfl⟩ := List.mem_map.1 hc
  exact b.toNat_lt
theorem row_oct {α : Type} (e : α → List Nat) : ∀ l : List α, (∀ a ∈ l, ∀ c ∈ e a, c < 256) → ∀ c ∈ rowB e l, c < 256
  | [], _, c, h => by simp [rowB] at h; omega
  | a :: r, hl, c, h => by
    rcases List.mem_append.1 h with h | h
    · exact hl a (by simp) c h
    · exact row_oct e r (fun y hy => hl y (by simp [hy])) c h
theorem beh_oct : ∀ (L : Nat) (x : Val), OctsIn L x → ∀ c ∈ beh L x, c < 256 := by
  intro L
  induction L with
  | zero =>
    intro x hx c hc
    unfold beh at hc
    split at hc
    · exact be_oct _ 8 c hc
    split at hc
    · exact text_oct _ (bytes_oct _) c hc
    split at hc
    · rcases List.mem_append.1 hc with h | h
      · exact be_oct _ 8 c h
      · exact hx.here c h
    split at hc
    · exact text_oct _ hx.here c hc
    · cases hc
  | succ L ih =>
    intro x hx c hc
    unfold beh at hc
    split at hc
    · exact be_oct _ 8 c hc
    split at hc
    · exact text_oct _ (bytes_oct _) c hc
    split at hc
    · rcases List.mem_append.1 hc with h | h
      · exact be_oct _ 8 c h
      · exact hx.here c h
    split at hc
    · exact text_oct _ hx.here c hc
    · simp only [] at hc
      split at hc
      · refine row_oct _ x.f (fun p hp c hc => ?_) c hc
        rcases List.mem_cons.1 hc with e | hc
        · rw [e]; exact mark_lt _
        · rcases List.mem_append.1 hc with h | h
          · exact text_oct _ (bytes_oct _) c h
          · exact ih p.2 (hx.2.1 p hp) c h
      · split at hc
        · refine row_oct _ x.l (fun p hp c hc => ?_) c hc
          rcases List.mem_cons.1 hc with e | hc
          · rw [e]; exact mark_lt _
          · exact ih p (hx.2.2 p hp) c hc
        · cases hc
theorem val_oct (L : Nat) (x : Val) (h : OctsIn L x) : ∀ c ∈ valB L x, c < 256 := fun c hc => by
  rcases List.mem_cons.1 hc with e | hc
  · rw [e]; exact mark_lt _
  · exact beh_oct L x h c hc
/-- What is known of an item. -/
def Fine (L : Nat) (x : Val) : Prop := fits L x ∧ Okay L x ∧ OctsIn L x
theorem item_codes (L h : Nat) (d : Bool) (x y : Val) (hx : Fine L x) (hy : Fine L y) (hL : L < h) (r s : List Nat) : Order.octs (itemB L d x ++ r) (itemB L d y ++ s) = next (Order.turned (Order.cmp h) d x y) (Order.octs r s) := by
  have hv := fun r s => val_codes L h x y hx.1 hy.1 hx.2.1 hy.2.1 hL r s
  cases d
  · exact hv r s
  · exact turn_codes (val_oct L x hx.2.2) (val_oct L y hy.2.2) hv r s
def rowsC (h : Nat) (d : List Bool) : List Val → List Val → Nat → Int
  | x :: a, y :: b, i => next (Order.turned (Order.cmp h) (d.getD i false) x y) (rowsC h d a b (i + 1))
  | _, _, _ => 0
theorem enc_codes (L h : Nat) (hL : L < h) (d : List Bool) : ∀ (a b : List Val) (i : Nat), a.length = b.length → (∀ x ∈ a, Fine L x) → (∀ x ∈ b, Fine L x) → ∀ r s,
    Order.octs (encB L d a i ++ r) (encB L d b i ++ s) = next (rowsC h d a b i) (Order.octs r s)
  | [], [], i, _, _, _, r, s => (next_zero _).symm
  | [], _ :: _, _, hl, _, _, _, _ => by simp at hl
  | _ :: _, [], _, hl, _, _, _, _ => by simp at hl
  | x :: a, y :: b, i, hl, ha, hb, r, s => by
    rw [encB, encB, List.append_assoc, List.append_assoc, item_codes L h _ x y (ha x (by simp)) (hb y (by simp)) hL, enc_codes L h hL d a b (i + 1) (by simpa using hl) (fun z hz => ha z (by simp [hz])) (fun z hz => hb z (by simp [hz])), rowsC, next_assoc]
theorem next_turned (h : Nat) (t : Bool) (x y : Val) (c : Int) : next (Order.turned (Order.cmp h) t x y) c = if Order.cmp h x y = 0 then c else if t then - Order.cmp h x y else Order.cmp h x y := by
  unfold next
  by_cases e : Order.cmp h x y = 0
  · rw [if_pos (Order.turned_zero.2 e), if_pos e]
  · rw [if_neg (fun z => e (Order.turned_zero.1 z)), if_neg e]; rfl
theorem rows_from (h : Nat) (z : Val) (d : List Bool) : ∀ (a b p q : List Val), a.length = b.length → p.length = q.length → Order.byFrom (Order.cmp h) z (p ++ a) (q ++ b) d a.length p.length = rowsC h d a b p.length
  | [], [], _, _, _, _ => rfl
  | [], _ :: _, _, _, hl, _ => by simp at hl
  | _ :: _, [], _, _, hl, _ => by simp at hl
  | x :: a, y :: b, p, q, hl, hp => by
    have e1 : (p ++ x :: a).getD p.length z = x := by simp [List.getD_eq_getElem?_getD]
    have e2 : (q ++ y :: b).getD p.length z = y := by rw [hp]; simp [List.getD_eq_getElem?_getD]
    have ih := rows_from h z d a b (p ++ [x]) (q ++ [y]) (by simpa using hl) (by simp [hp])
    rw [List.append_assoc, List.append_assoc, List.length_append, List.length_singleton] at ih
    rw [List.length_cons, Order.byFrom, e1, e2, rowsC, next_turned]
    rw [show p ++ ([x] ++ a) = p ++ x :: a from rfl, show q ++ ([y] ++ b) = q ++ y :: b from rfl] at ih
    rw [ih]
theorem key_rows (L h : Nat) (hL : L < h) (d : List Bool) (z : Val) (a b : List Val) (hl : a.length = b.length) (ha : ∀ x ∈ a, Fine L x) (hb : ∀ x ∈ b, Fine L x) : Order.octs (encB L d a 0) (encB L d b 0) = Order.rows (Order.cmp h) z a b d := by
  have h1 := enc_codes L h hL d a b 0 hl ha hb [] []
  rw [List.append_nil, List.append_nil, show Order.octs ([] : List Nat) [] = 0 from rfl] at h1
  have h2 := rows_from h z d a b [] [] hl rfl
  rw [h1, Order.rows, ← hl, Nat.max_self]
  rw [List.nil_append, List.nil_append, List.length_nil] at h2
  rw [h2]
  unfold next
  split
  · rename_i e; exact e.symm
  · rfl
/-- What is read has its numbers and bytes within bounds. -/
theorem VIn.okay {w : World} {Q : Nat → Prop} : ∀ {h : Nat} {x : Val} {v : Value}, VIn w Q h x v → ∀ L, Okay L x
  | 0, _, _, hv, _ => hv.elim
  | h + 1, x, v, ⟨_, _, _, _, _, _, _, hL, _, _, _, _, hF, hI⟩, L => by
    have h0 : -9223372036854775808 ≤ x.n ∧ x.n ≤ 9223372036854775807 ∧ x.b.length ≤ 140737488355328 := ⟨hL.n0, hL.n1, hL.b⟩
    cases L with
    | zero => exact h0
    | succ L =>
      refine ⟨h0, fun p hp => ?_, fun y hy => ?_⟩
      · obtain ⟨i, hi, rfl⟩ := List.getElem_of_mem hp
        rcases hF with e | ⟨g, o, _, _, hr⟩
        · rw [e] at hi; cases hi
        · obtain ⟨_, _, u, _, hu⟩ := hr i hi
          exact VIn.okay hu L
      · obtain ⟨i, hi, rfl⟩ := List.getElem_of_mem hy
        rcases hI with e | ⟨g, o, _, _, hr⟩
        · rw [e] at hi; cases hi
        · obtain ⟨u, _, hu⟩ := hr i hi
          exact VIn.okay hu L
theorem VIn.octsIn {w : World} {Q : Nat → Prop} : ∀ {h : Nat} {x : Val} {v : Value}, VIn w Q h x v → ∀ L, OctsIn L x
  | 0, _, _, hv, _ => hv.elim
  | h + 1, x, v, ⟨_, _, _, _, _, _, _, hL, _, _, _, _, hF, hI⟩, L => by
    cases L with
    | zero => exact hL.o
    | succ L =>
      refine ⟨hL.o, fun p hp => ?_, fun y hy => ?_⟩
      · obtain ⟨i, hi, rfl⟩ := List.getElem_of_mem hp
        rcases hF with e | ⟨g, o, _, _, hr⟩
        · rw [e] at hi; cases hi
        · obtain ⟨_, _, u, _, hu⟩ := hr i hi
          exact VIn.octsIn hu L
      · obtain ⟨i, hi, rfl⟩ := List.getElem_of_mem hy
        rcases hI with e | ⟨g, o, _, _, hr⟩
        · rw [e] at hi; cases hi
        · obtain ⟨u, _, hu⟩ := hr i hi
          exact VIn.octsIn hu L
theorem ItemsIn.take {w : World} {Q : Nat → Prop} {V : Val → Value → Prop} {a : Option Addr} {l : List Val} (h : ItemsIn w Q V a l) (n : Nat) : ItemsIn w Q V a (l.take n) := by
  rcases h with h | ⟨g, o, e, hq, h⟩
  · exact .inl (by rw [h]; exact List.take_nil)
  · refine .inr ⟨g, o, e, hq, fun i hi => ?_⟩
    have hi' : i < l.length := by rw [List.length_take] at hi; omega
    obtain ⟨v, h1, h2⟩ := h i hi'
    exact ⟨v, h1, by rw [List.getElem_take]; exact h2⟩
theorem ItemsIn.lt {w : World} {Q : Nat → Prop} {h : Nat} {a : Option Addr} {l : List Val} (hI : ItemsIn w Q (VIn w Q h) a l) (hl : ∀ {x : Val} {v : Value}, VIn w Q h x v → VIn w (fun g => Q g ∧ g < w.heap.size) h x v) : ItemsIn w (fun g => Q g ∧ g < w.heap.size) (VIn w (fun g => Q g ∧ g < w.heap.size) h) a l := by
  rcases hI with e | ⟨g, o, e, hq, hr⟩
  · exact .inl e
  · cases hx : l with
    | nil => exact .inl rfl
    | cons c r =>
      obtain ⟨v0, h0, _⟩ := hr 0 (by rw [hx]; simp)
      obtain ⟨_, _, _, _, _, _, _, hc, _⟩ := h0
      refine .inr ⟨g, o, e, ⟨hq, World.block_lt_of_cell? w _ hc⟩, ?_⟩
      rw [← hx]
      intro i hi
      obtain ⟨v, a3, a4⟩ := hr i hi
      exact ⟨v, a3, hl a4⟩
theorem ItemsIn.mem {w : World} {Q : Nat → Prop} {V : Val → Value → Prop} {a : Option Addr} {l : List Val} (hI : ItemsIn w Q V a l) {x : Val} (hx : x ∈ l) : ∃ v, V x v := by
  obtain ⟨i, hi, rfl⟩ := List.getElem_of_mem hx
  rcases hI with e | ⟨g, o, _, _, hr⟩
  · rw [e] at hi; cases hi
  · obtain ⟨v, _, h⟩ := hr i hi
    exact ⟨v, h⟩
end Go.Proofs.YtpklnhmhbaakhaaDoor
end
