/- AppendSz, I64In, OpenBase, PathSplit, RegInv, SealRow, TabBase, BytesStr, RegDet, Wrote, BsonMem, OrderMath, PathMath, RegFactsOn, BsonShallow. -/
import Derived.SizedLaws
import Derived.Deep.Strs
import Derived.Laws.AppendOwn
import Derived.Lib.IndexBytes
import Derived.Lib.CutLaws
import Derived.Test.YtiajjgehnmkokaaGreatDoorRows
import Derived.WalkKit
import Derived.Laws.CopyOwn
import Derived.Deep.Quiet
import Derived.Lib.Hide
import Derived.Laws.BitsAllLaws
import Derived.Test.YtiajjgehnmkokaaGreatDoorCards
import Derived.Test.YtiajjgehnmkokaaGreatDoorTie
import Derived.Lib.LaidU8T
import Derived.Deep.DeepWitnessRowRef
import Derived.Lay
import Derived.WalkLawsBesides
import Derived.Laws.BytesArg
import Derived.Lib.Bytealg
import Derived.Deep.RegionHeld3
import Derived.Test.YtiajjgehnmkokaaGreatDoorMl0
set_option maxRecDepth 100000
set_option maxHeartbeats 20000000
section
namespace Go.Proofs.YtiajjgehnmkokaaGreatDoor
open Go.RowKit
section
variable {P : Program} (w : World)
theorem run_append_sz (base : Nat) (t ty e : TypeId) (i : TypeInfo) (z : Value) (size bytes : Nat) (ht : P.underlying t = some (.slice e)) (hi : P.info? e = some i) (hz : i.zero = some z)
  (hsize : i.size = size) (hby : i.bytes = bytes) (hzs : z.cells.size = size) (v : Value) (n : Nat) (xs : List Value) (hown : w.ownsRow base e size v n xs)
  (a : Addr) (m c : Nat) (news : List Value) (hl : news.length = m * size) (hm : 0 < m) (_ : 0 < size) (hnews : ∀ j u, news[j]? = some u → w.cell? (a.add j) = some u) (h1 : ∀ u ∈ news, u.oneCell' = true)
  (h63 : n + m ≤ maxLen) (hbytes : (n + m) * bytes ≤ 140737488355328) (hbase : base ≤ w.heap.size) :
  ∃ v' w', (Builtin.append_ #[t, t] ty #[v, .slice (some a) m c]).run P w = .ok v' w' ∧ w'.ownsRow base e size v' (n + m) (xs ++ news) ∧ Lies w w' v v' := by
 subst hby
 have hsmall : n + m ≤ 9223372036854775807 := by simp only [maxLen] at h63; omega
 have hxl : xs.length = n * size := hown.1
 have grown : ∀ (old : Nat), old < n + m →
   (w.drew.alloc (.cells (xs.toArray ++ news.toArray ++ Builtin.zeroCells z.cells (grownCap w (n + m) old e - (n + m))) e)).ownsRow base e size
    (.slice (some ⟨w.heap.size, 0, none⟩) (n + m) (grownCap w (n + m) old e)) (n + m) (xs ++ news) ∧
   w.grownBy (w.drew.alloc (.cells (xs.toArray ++ news.toArray ++ Builtin.zeroCells z.cells (grownCap w (n + m) old e - (n + m))) e)) none := by
  intro old ho
  have hge := grownCap_ge w (n + m) old e
  have hcm : grownCap w (n + m) old e ≤ maxLen := grownCap_le_maxLen w (n + m) old e h63
  have e1 : (xs ++ news).length = (n + m) * size := by rw [List.length_append, hxl, hl, Nat.add_mul]
  refine ⟨⟨e1, .inr ⟨w.heap.size, _, _, rfl, hbase, heap_alloc_new w.drew _, hge, hcm, ?_, ?_⟩⟩, ⟨rfl, rfl, rfl, by simp, fun k hk _ => Below.heap_alloc w.drew _ k hk⟩⟩
  ·simp only [Array.size_append, List.size_toArray, size_zeroCells, hzs]
   rw [hxl, hl, ← Nat.add_mul, ← Nat.add_mul]
   congr 1; omega
  ·simp only [Array.toList_append, List.append_assoc]
   rw [← List.append_assoc]
   exact List.take_left' e1
 rcases hown.2 with ⟨rfl, rfl⟩ | ⟨g, cap, cur, rfl, hbg, hg, hnc, hcm, hcs, htake⟩
 ·have hx : xs = [] := List.eq_nil_of_length_eq_zero (by omega)
  subst hx
  have hr := run_append_nil (P := P) w t ty e i z ht hi hz a m c news (by rw [hsize]; exact hl) hnews hm (by omega) (by have hb := hbytes; simp only [Nat.zero_add] at hb; omega)
  have hgr := grown 0 (by omega)
  simp only [Nat.zero_add, List.nil_append, Array.empty_append] at hgr ⊢
  exact ⟨_, _, hr, hgr.1, .inr ⟨rfl, hgr.2⟩⟩
 ·by_cases hroom : n + m ≤ cap
  ·obtain ⟨w', hr, h2, h3⟩ := run_append_fits (P := P) w base t ty e i size ht hi hsize g n cap xs hown a m c news hl hnews h1 hroom
   exact ⟨_, w', hr, h2, .inl ⟨rfl, h3⟩⟩
  ·have holds : ∀ j u, xs[j]? = some u → w.cell? ((⟨g, 0, none⟩ : Addr).add j) = some u := hown.cells (g := g) rfl
   have hr := run_append_grow (P := P) w t ty e i z ht hi hz ⟨g, 0, none⟩ n cap xs (by rw [hsize]; exact hxl) holds a m c news (by rw [hsize]; exact hl) hnews (by omega) (by omega) (growslice_fits (by omega) hbytes)
   have hgr := grown cap (by omega)
   exact ⟨_, _, hr, hgr.1, .inr ⟨rfl, hgr.2⟩⟩
theorem wpList_append_sz {ops : Array Oper} {rest : List Oper} {o : Oper} {a : Act} {Q : Exit → Act → World → Prop} (hgd : o.guard = none) (s x : Operand) (t : TypeId)
  (ho : o.op = .call { callee := .builtin .append, args := #[s, x], argTypes := #[t, t] })
  (base : Nat) (e : TypeId) (i : TypeInfo) (z : Value) (size bytes : Nat) (ht : P.underlying t = some (.slice e)) (hi : P.info? e = some i) (hz : i.zero = some z)
  (hsize : i.size = size) (hby : i.bytes = bytes) (hzs : z.cells.size = size) (v : Value) (n : Nat) (xs : List Value) (hs : a.eval s = v) (hown : w.ownsRow base e size v n xs)
  (ad : Addr) (m c : Nat) (news : List Value) (hx : a.eval x = .slice (some ad) m c) (hl : news.length = m * size) (hm : 0 < m) (hsz : 0 < size) (hnews : ∀ j u, news[j]? = some u → w.cell? (ad.add j) = some u) (h1 : ∀ u ∈ news, u.oneCell' = true)
  (h63 : n + m ≤ maxLen) (hbytes : (n + m) * bytes ≤ 140737488355328) (hbase : base ≤ w.heap.size)
  (h : ∀ v' w', w'.ownsRow base e size v' (n + m) (xs ++ news) → Lies w w' v v' → wpList P ops Q rest (a.put o.dst v') w') : wpList P ops Q (o :: rest) a w := by
 refine wpList_plain hgd fun K hK => ?_
 obtain ⟨v', w', hr, h2, h3⟩ := run_append_sz (P := P) w base t o.type e i z size bytes ht hi hz hsize hby hzs v n xs hown ad m c news hl hm hsz hnews h1 h63 hbytes hbase
 unfold Oper.wp execOp
 simp only [ho, resolve, invoke, builtin, Sem.run_bind, Sem.run_pure, Result.andThen_ok, List.map_toArray, List.map_cons, List.map_nil, hs, hx, hr]
 exact hK _ _ (h v' w' h2 h3)
end
end Go.Proofs.YtiajjgehnmkokaaGreatDoor
end
section
namespace Go.Proofs.YtiajjgehnmkokaaGreatDoor
open Go.ChangeShapes Go.WideShapes Go.ChangeAt Go.RowKit
theorem i64_in {n : Int} (h : (Lit.int .i64 n).wf = true) : -9223372036854775808 ≤ n ∧ n ≤ 9223372036854775807 := by
 have h1 : IntKind.i64.min = -9223372036854775808 := rfl
 have h2 : IntKind.i64.max = 9223372036854775807 := rfl
 simp only [Lit.wf, Bool.and_eq_true, decide_eq_true_eq] at h
 omega
end Go.Proofs.YtiajjgehnmkokaaGreatDoor
end
section
namespace Go.Proofs.YtiajjgehnmkokaaGreatDoor
open Go.ChangeShapes Go.WideShapes Go.ChangeAt Go.RowKit
theorem reach_eq : reachBytes = 140737488351232 := rfl
theorem addr_spot {w : World} {a : Addr} {v : Value} (h : w.cell? (a.add 0) = some v) : a = ⟨a.block, a.off, none⟩ := by
 obtain ⟨b, off, spot⟩ := a
 have hspot : spot = none := by simpa [Addr.add] using World.cell?_spot h
 subst hspot
 rfl
theorem cellsStr : Tryz.prog.cellsOf 9 = 1 := by kernel_rfl
theorem weightsAll_mem {H : Type} {P : Program} {e : TypeId} : ∀ {l : List (DataW H)} {d : DataW H}, d ∈ l → ∀ n ∈ d.weights P e, n ∈ DataW.weightsAll P e l
 | d' :: r, d, hd, n, hn => by
  simp only [DataW.weightsAll, List.mem_append]
  rcases List.mem_cons.1 hd with rfl | h
  ·exact Or.inl hn
  ·exact Or.inr (weightsAll_mem h n hn)
end Go.Proofs.YtiajjgehnmkokaaGreatDoor
end
section
namespace Go.Proofs.YtiajjgehnmkokaaGreatDoor
open Go
namespace Path
def split : List UInt8 → List (List UInt8)
 | [] => [[]]
 | c :: r => if c = 46 then [] :: split r else (c :: (split r).headD []) :: (split r).tail
theorem split_free : ∀ (a : List UInt8), 46 ∉ a → split a = [a]
 | [], _ => rfl
 | c :: r, h => by
  have hc : c ≠ 46 := fun e => h (by simp [e])
  have ih := split_free r (fun e => h (by simp [e]))
  simp [split, hc, ih]
theorem split_cut : ∀ (a b : List UInt8), 46 ∉ a → split (a ++ 46 :: b) = a :: split b
 | [], b, _ => by simp [split]
 | c :: r, b, h => by
  have hc : c ≠ 46 := fun e => h (by simp [e])
  have ih := split_cut r b (fun e => h (by simp [e]))
  simp [split, hc, ih]
theorem split_ne (s : List UInt8) : split s ≠ [] := by
 cases s with
 | nil => simp [split]
 | cons c r => unfold split; split <;> simp
theorem dot_index : ∀ (s : List UInt8), (46 ∉ s ∧ Lib.indexByte s 46 = -1) ∨ ∃ a b, s = a ++ 46 :: b ∧ 46 ∉ a ∧ Lib.indexByte s 46 = a.length
 | [] => .inl ⟨by simp, rfl⟩
 | c :: r => by
  by_cases hc : c = 46
  ·subst hc
   exact .inr ⟨[], r, rfl, by simp, by simp [Lib.indexByte]⟩
  ·rcases dot_index r with ⟨h1, h2⟩ | ⟨a, b, rfl, h1, h2⟩
   ·refine .inl ⟨by simp [h1, Ne.symm hc], ?_⟩
    simp [Lib.indexByte, hc, h2]
   ·refine .inr ⟨c :: a, b, rfl, by simp [h1, Ne.symm hc], ?_⟩
    have hn : ¬ ((a.length : Int) = -1) := by omega
    simp [Lib.indexByte, hc, h2, hn]
theorem cut_dot (s : List UInt8) : (46 ∉ s ∧ Lib.cut s [46] = (s, [], false)) ∨ ∃ a b, s = a ++ 46 :: b ∧ 46 ∉ a ∧ Lib.cut s [46] = (a, b, true) := by
 rcases dot_index s with ⟨h1, h2⟩ | ⟨a, b, rfl, h1, h2⟩
 ·refine .inl ⟨h1, ?_⟩
  unfold Lib.cut
  rw [Lib.index_one, h2]; rfl
 ·refine .inr ⟨a, b, rfl, h1, ?_⟩
  unfold Lib.cut
  rw [Lib.index_one, h2, if_pos (by omega)]
  simp
def may (x : List UInt8) : Bool := (!x.isEmpty) && (x.headD 0 != 36) && decide (x.length ≤ 120) && decide (0 ∉ x) && Lib.validD x
def parse (s : List UInt8) : Option (List (List UInt8)) := if (split s).all may = true ∧ (split s).length ≤ 16 then some (split s) else none
theorem index_none (x : List UInt8) (c : UInt8) : Lib.indexByte x c < 0 ↔ c ∉ x := by
 induction x with
 | nil => simp [Lib.indexByte]
 | cons d r ih =>
  have hg := Lib.indexByte_ge r c
  by_cases hd : d = c
  ·subst hd; simp [Lib.indexByte]
  ·by_cases h : Lib.indexByte r c = -1
   ·have : c ∉ r := ih.1 (by omega)
    simp [Lib.indexByte, hd, h, Ne.symm hd, this]
   ·have h2 : ¬ c ∉ r := fun e => h (by have := ih.2 e; omega)
    have h3 : c ∈ r := Classical.not_not.1 h2
    simp [Lib.indexByte, hd, h, h3]
    omega
def strs (l : List (List UInt8)) : List Value := l.map fun x => .string ⟨x.toArray⟩
theorem strs_append (a b : List (List UInt8)) : strs (a ++ b) = strs a ++ strs b := by simp [strs]
end Path
end Go.Proofs.YtiajjgehnmkokaaGreatDoor
end
section
namespace Go.Proofs.YtiajjgehnmkokaaGreatDoor
open Go.RowKit
def setD (D : Nat → Bool) (i : Nat) : Nat → Bool := fun j => if j = i then true else D j
section
variable {P : Program} {Q : Exit → Act → World → Prop} {md : Region.Mode}
def InvStep (P : Program) (md : Region.Mode) (ops : Array Oper) (Q : Exit → Act → World → Prop) (A : (Nat → Value) → Act) (I : (Nat → Bool) → (Nat → Value) → World → Prop) (i : Nat) (o : Oper) : Prop :=
 ∀ (D : Nat → Bool) (V : Nat → Value) (w : World), D i = false → (∀ j, (o.after.any fun e => Region.binds md e && e.on == j) = true → D j = true) → I D V w →
  ∀ K : Act → World → Prop, (∀ a' v w', (A V).put o.dst v = a' → I (setD D i) (upd V i v) w' → K a' w') →
  if Region.wanted o (yielded ops (A V).tmps) = true then Oper.wp P o (A V) w K Q else K ((A V).put o.dst undef) w
def InvSteps (P : Program) (md : Region.Mode) (ops : Array Oper) (Q : Exit → Act → World → Prop) (A : (Nat → Value) → Act) (I : (Nat → Bool) → (Nat → Value) → World → Prop) : List Oper → Nat → Prop
 | [], _ => True
 | o :: r, i => InvStep P md ops Q A I i o ∧ InvSteps P md ops Q A I r (i + 1)
theorem InvSteps.at {ops : Array Oper} {A : (Nat → Value) → Act} {I : (Nat → Bool) → (Nat → Value) → World → Prop} : ∀ {r : List Oper} {k i : Nat} {o : Oper}, InvSteps P md ops Q A I r k → r[i]? = some o → InvStep P md ops Q A I (k + i) o
 | [], _, _, _, _, h => by simp at h
 | x :: r, k, 0, o, hs, h => by
  obtain rfl : x = o := by simpa using h
  exact hs.1
 | x :: r, k, i + 1, o, hs, h => by
  have := InvSteps.at (r := r) (k := k + 1) (i := i) hs.2 (by simpa using h)
  rwa [show k + 1 + i = k + (i + 1) by omega] at this
theorem inv_any {l : List Oper} {A : (Nat → Value) → Act} {I : (Nat → Bool) → (Nat → Value) → World → Prop} (hb : backB md l 0 = true)
  (hA : ∀ V i o v, l[i]? = some o → (A V).put o.dst v = A (upd V i v)) (hs : InvSteps P md l.toArray Q A I l 0)
  (hend : ∀ D V w, (∀ j, j < l.length → D j = true) → I D V w → Q .normal (A V) w) :
  ∀ (fuel : Nat) (listed : Array Bool) (V : Nat → Value) (w : World), listed.size = l.length → unl listed l.length ≤ fuel →
   I (fun j => listed.getD j false) V w → wpAny P md l.toArray Q fuel listed (A V) w := by
 have full : ∀ (listed : Array Bool), Region.ready md l.toArray listed = [] → ∀ n j, j < n → j < l.length → listed.getD j true = true := by
  intro listed hr n
  induction n with
  | zero => intro j h; omega
  | succ n ih =>
   intro j hj hl
   by_cases e : listed.getD j true = true
   ·exact e
   ·exfalso
    have ho : l[j]? = some l[j] := List.getElem?_eq_getElem hl
    have : j ∈ Region.ready md l.toArray listed := by
     refine mem_ready.2 ⟨by simpa using e, l[j], by simp, fun e' he' hb' => ?_⟩
     have hlt := back_spec md l 0 j _ hb ho e' he' hb'
     have h1 := ih e'.on (by omega) (by omega)
     by_cases hs : e'.on < listed.size
     ·simp [hs] at h1 ⊢; exact h1
     ·exfalso
      apply e
      have : ¬ j < listed.size := by omega
      simp [this]
    rw [hr] at this
    cases this
 have done : ∀ (listed : Array Bool) (V : Nat → Value) (w : World), listed.size = l.length → (∀ j, j < l.length → listed.getD j true = true) →
   I (fun j => listed.getD j false) V w → Q .normal (A V) w := fun listed V w hz hall hI => hend _ V w (fun j hj => by
    have := hall j hj
    have h2 : j < listed.size := by omega
    simp [h2] at this ⊢; exact this) hI
 intro fuel
 induction fuel with
 | zero =>
  intro listed V w hz hu hI
  have hall := unl_zero listed l.length (by omega)
  refine ⟨?_, done listed V w hz hall hI⟩
  cases hr : Region.ready md l.toArray listed with
  | nil => rfl
  | cons x xs =>
   have hx : x ∈ Region.ready md l.toArray listed := by rw [hr]; exact List.mem_cons_self
   obtain ⟨h0, o, ho, _⟩ := mem_ready.1 hx
   have hlt : x < l.length := by simpa using (Array.getElem?_eq_some_iff.1 ho).1
   rw [hall x hlt] at h0; cases h0
 | succ fuel ih =>
  intro listed V w hz hu hI
  refine ⟨fun hr => done listed V w hz (fun j hj => full listed hr (j + 1) j (by omega) hj) hI, fun i hi => ?_⟩
  obtain ⟨h0, o, ho, hall⟩ := mem_ready.1 hi
  have ho' : l[i]? = some o := by simpa using ho
  have hlt : i < l.length := (List.getElem?_eq_some_iff.1 ho').1
  have hstep := InvSteps.at (k := 0) (i := i) hs ho'
  rw [Nat.zero_add] at hstep
  have hls : i < listed.size := by omega
  have h1 := hstep (fun j => listed.getD j false) V w (by simp [hls] at h0 ⊢; exact h0) (fun j hj => by
   obtain ⟨e, he, hb2⟩ := Array.any_eq_true'.1 hj
   simp only [Bool.and_eq_true, beq_iff_eq] at hb2
   rw [← hb2.2]; exact hall e he hb2.1) hI (wpAny P md l.toArray Q fuel (listed.setIfInBounds i true)) (fun a' v w' ha hI' => by
    rw [← ha, hA V i o v ho']
    refine ih _ _ _ (by simpa using hz) (by have := unl_set_lt listed i h0 l.length hlt; omega) ?_
    have e : (fun j => (listed.setIfInBounds i true).getD j false) = setD (fun j => listed.getD j false) i := by
     funext j
     by_cases e : j = i
     ·subst e; simp [setD, hls]
     ·rw [getD_set_ne false (Ne.symm e), setD, if_neg e]
    rw [e]; exact hI')
  unfold wpOp
  simp only [ho]
  split
  ·rename_i hw
   rw [if_pos hw] at h1
   exact .inl h1
  ·rename_i hw
   rw [if_neg hw] at h1
   exact h1
theorem wp_region_inv {id : Nat} {a : Act} {w : World} {l : List Oper} (A : (Nat → Value) → Act) (I : (Nat → Bool) → (Nat → Value) → World → Prop) (hm : P.follows .mixedOrders = true) (hb : backB .any l 0 = true)
  (hn : nodupB (l.map (·.dst)) = true) (hA : ∀ V, putAll a V (l.map (·.dst)) 0 = A V) (hs : InvSteps P .any l.toArray Q A I l 0)
  (h0 : ∀ V, I (fun _ => false) V { w with drawn := w.drawn + 1 })
  (hend : ∀ D V w', (∀ j, j < l.length → D j = true) → I D V w' → Q .normal (A V) w') : (Code.region id l.toArray true).wp P Q a w := by
 refine wp_region_any hm ?_
 have e0 : a = A (own0 a (l.map (·.dst))) := by
  rw [← hA, putAll_own]
  intro i d hi
  rw [Nat.zero_add, own0, hi]
 have h := inv_any (I := I) hb (fun V i o v ho => by
   rw [← hA, ← hA]
   have := putAll_upd (V := V) v (l.map (·.dst)) 0 i o.dst a hn (by rw [List.getElem?_map, ho]; rfl)
   rwa [Nat.zero_add] at this) hs hend l.toArray.size (Array.replicate l.toArray.size false) (own0 a (l.map (·.dst))) { w with drawn := w.drawn + 1 } (by simp) (by simpa using unl_le _ l.length)
   (by
    have e : (fun j => (Array.replicate l.toArray.size false).getD j false) = fun _ => false := by
     funext j
     by_cases h : j < l.length
     ·simp [h]
     ·simp [h]
    rw [e]; exact h0 _)
 rw [← e0] at h
 exact h
end
structure OFact where
 own : Bool
 p : Value → Nat → World → Prop
def OFact.any : OFact := ⟨false, fun _ _ _ => True⟩
section
variable {P : Program} {Q : Exit → Act → World → Prop} {md : Region.Mode}
end
section
variable {P : Program} {Q : Exit → Act → World → Prop} {md : Region.Mode}
theorem inv_free {ops : Array Oper} {A : (Nat → Value) → Act} {I : (Nat → Bool) → (Nat → Value) → World → Prop} {i : Nat} {o : Oper} (hg : o.guard = none)
  (h : ∀ (D : Nat → Bool) (V : Nat → Value) (w : World), D i = false → Shut (∀ j, (o.after.any fun e => Region.binds md e && e.on == j) = true → D j = true) → I D V w →
   ∀ K : Act → World → Prop, Shut (∀ v w', I (setD D i) (upd V i v) w' → K ((A V).put o.dst v) w') → Oper.wp P o (A V) w K Q) : InvStep P md ops Q A I i o := by
 intro D V w hDi hpre hI K hK
 rw [if_pos (show Region.wanted o (yielded ops (A V).tmps) = true by simp [Region.wanted, hg])]
 exact h D V w hDi hpre hI K (fun v w' h1 => hK _ v w' rfl h1)
end
end Go.Proofs.YtiajjgehnmkokaaGreatDoor
end
section
namespace Go.Proofs.YtiajjgehnmkokaaGreatDoor
open Go.RowKit
open Seal
def u8 (n : Nat) : Value := .int .u8 (n : Int)
def u8s (l : List Nat) : List Value := l.map u8
def Row (w : World) (g : Nat) (l : List Nat) : Prop := w.heap[g]? = some (.cells (u8s l).toArray 5 (0, 0))
theorem Row.cell {w : World} {g : Nat} {l : List Nat} (h : Row w g l) {j : Nat} (hj : j < l.length) : w.cell? ⟨g, j, none⟩ = some (.int .u8 ((l.getD j 0 : Nat) : Int)) := by
 rw [cell_of_row w g j _ _ _ h]
 simp [u8s, u8, List.getElem?_eq_getElem hj, List.getD_eq_getElem?_getD]
theorem Row.frozen {w : World} {g : Nat} {l : List Nat} (h : Row w g l) (j : Nat) : w.frozen? ⟨g, j, none⟩ = false := frozen_of_row w g j _ _ h
theorem Row.lt {w : World} {g : Nat} {l : List Nat} (h : Row w g l) : g < w.heap.size := by
 by_cases hg : g < w.heap.size
 ·exact hg
 ·unfold Row at h; rw [Array.getElem?_eq_none (by omega)] at h; simp at h
theorem Row.same {w w' : World} {g : Nat} {l : List Nat} (h : Row w g l) (e : w'.heap[g]? = w.heap[g]?) : Row w' g l := e.trans h
theorem Row.drew {w : World} {g : Nat} {l : List Nat} (h : Row w g l) : Row w.drew g l := h
theorem Row.made {w : World} (n : Nat) : Row (w.alloc (.cells (madeCells #[.int .u8 0] n) 5)) w.heap.size (List.replicate n 0) := by
 unfold Row
 rw [heap_alloc_new w _]
 have : (madeCells #[Value.int .u8 0] n) = (u8s (List.replicate n 0)).toArray := by
  apply Array.toList_inj.1
  rw [toList_madeCells_one]; simp [u8s, u8]
 rw [this]
theorem Row.below {w w' : World} {g B : Nat} {l : List Nat} (h : Row w g l) (hb : Below B w w') (hg : g < B) : Row w' g l := h.same (hb.block g hg)
theorem Row.inj {w : World} {g : Nat} {l m : List Nat} (h : Row w g l) (k : Row w g m) : l = m := by
 have e : (u8s l) = (u8s m) := by
  have := h.symm.trans k
  simpa using this
 unfold u8s at e
 refine (List.map_inj_right ?_).1 e
 intro x y hxy
 simp [u8] at hxy; omega
def Reads (w : World) (b off : Nat) (l : List Nat) : Prop := ∀ j, j < l.length → w.cell? ⟨b, off + j, none⟩ = some (.int .u8 ((l.getD j 0 : Nat) : Int))
theorem Row.reads {w : World} {g : Nat} {l : List Nat} (h : Row w g l) (off n : Nat) (hn : off + n ≤ l.length) : Reads w g off ((l.drop off).take n) := by
 intro j hj
 simp at hj
 rw [h.cell (by omega)]
 simp [List.getD_eq_getElem?_getD, show j < n by omega]
theorem Reads.below {w w' : World} {b off B : Nat} {l : List Nat} (h : Reads w b off l) (hb : Below B w w') (hg : b < B) : Reads w' b off l :=
 fun j hj => (hb.cell (p := ⟨b, off + j, none⟩) hg).trans (h j hj)
theorem Reads.drewN {w : World} {b off : Nat} {l : List Nat} (h : Reads w b off l) (n : Nat) : Reads (w.drewN n) b off l := fun j hj => by rw [World.cell?_drewN]; exact h j hj
theorem Reads.part {w : World} {b off : Nat} {l : List Nat} (h : Reads w b off l) (k n : Nat) : Reads w b (off + k) ((l.drop k).take n) := by
 intro j hj
 simp at hj
 have := h (k + j) (by omega)
 rw [Nat.add_assoc, this]
 simp [List.getD_eq_getElem?_getD, show j < n by omega]
def SliceIs (w : World) (a : Option Addr) (l : List Nat) : Prop := l = [] ∨ ∃ b off, a = some ⟨b, off, none⟩ ∧ Reads w b off l
theorem SliceIs.below {w w' : World} {a : Option Addr} {B : Nat} {l : List Nat} (h : SliceIs w a l) (hb : Below B w w') (hB : ∀ p, a = some p → p.block < B) : SliceIs w' a l := by
 rcases h with h | ⟨b, off, rfl, h⟩
 ·exact .inl h
 ·exact .inr ⟨b, off, rfl, h.below hb (hB _ rfl)⟩
theorem SliceIs.drewN {w : World} {a : Option Addr} {l : List Nat} (h : SliceIs w a l) (n : Nat) : SliceIs (w.drewN n) a l := h.imp id fun ⟨b, off, e, h⟩ => ⟨b, off, e, h.drewN n⟩
theorem Reads.keep {w w' : World} {b off : Nat} {l : List Nat} (h : Reads w b off l) (hb : Below w.heap.size w w') : Reads w' b off l :=
 fun j hj => (hb.cell (p := ⟨b, off + j, none⟩) (World.block_lt_of_cell? w _ (h j hj))).trans (h j hj)
theorem SliceIs.keep {w w' : World} {a : Option Addr} {l : List Nat} (h : SliceIs w a l) (hb : Below w.heap.size w w') : SliceIs w' a l :=
 h.imp id fun ⟨b, off, e, h⟩ => ⟨b, off, e, h.keep hb⟩
end Go.Proofs.YtiajjgehnmkokaaGreatDoor
end
section
namespace Go.Proofs.YtiajjgehnmkokaaGreatDoor
open Go.ChangeShapes Go.WideShapes Go.ChangeAt Go.RowKit
def laidList : List (String × DataW Unit) := [("unicode/utf8.acceptRanges", Rows.laid_unicode_utf8_acceptRanges), ("unicode/utf8.first", Rows.laid_unicode_utf8_first)]
theorem laidList_eq : laidList = [("unicode/utf8.acceptRanges", Lib.acceptData), ("unicode/utf8.first", Lib.firstData)] := by kernel_rfl
noncomputable def laidWorld (os : Os) : World := World.laidAll Tryz.prog os laidList
theorem laid_met_all (os : Os) (args : Array Value) : laidMet Tryz.prog laidList ((laidWorld os).forCall (fun _ _ => 0) ⟨#[], args, []⟩).memory :=
 laidMet_laidAll args (by kernel_rfl) (by kernel_rfl)
end Go.Proofs.YtiajjgehnmkokaaGreatDoor
end
section
namespace Go.Proofs.YtiajjgehnmkokaaGreatDoor
open Go.RowKit
open Seal
def strB (l : List Nat) : ByteArray := ⟨(l.map UInt8.ofNat).toArray⟩
theorem strB_inj {l m : List Nat} (hl : Oct l) (hm : Oct m) (h : strB l = strB m) : l = m := by
 have e : l.map UInt8.ofNat = m.map UInt8.ofNat := by
  have := congrArg (fun b : ByteArray => b.data.toList) h
  simpa [strB] using this
 have e2 : (l.map UInt8.ofNat).map UInt8.toNat = (m.map UInt8.ofNat).map UInt8.toNat := by rw [e]
 rw [List.map_map, List.map_map] at e2
 have id1 : ∀ l : List Nat, Oct l → l.map (UInt8.toNat ∘ UInt8.ofNat) = l := by
  intro l hl
  induction l with
  | nil => rfl
  | cons c r ih =>
   have hc : c < 256 := hl c (by simp)
   rw [List.map_cons, ih (fun x hx => hl x (by simp [hx]))]
   simp [Nat.mod_eq_of_lt hc]
 rw [id1 l hl, id1 m hm] at e2
 exact e2
theorem conv_str (w : World) (a : Option Addr) (n c : Nat) (l : List Nat) (hl : l.length = n) (h : SliceIs w a l) : (convert 22 9 (.slice a n c)).run Tryz.prog w = .ok (.string (strB l)) w := by
 subst hl
 rcases h with rfl | ⟨b, off, rfl, h⟩
 ·cases a with
  | none => exact run_convert_bytes_nil w 22 5 Tryz.underlying22 Tryz.underlying5 0 c 9 Tryz.underlying9
  | some a =>
   rw [List.length_nil, run_convert_bytes_string w 22 9 5 _ 0 c Tryz.underlying22 Tryz.underlying5 Tryz.underlying9, run_bytesToString w a 0 c [] (by simpa using run_loadCells_list (P := Tryz.prog) w a [] (by simp))]
   rfl
 ·have := run_convert_bytes_arg w 22 5 Tryz.underlying22 Tryz.underlying5 b off l.length c (l.map fun n : Nat => (n : Int)) (by simp) (fun i hi => by
   rw [h i hi]; simp [List.getD_eq_getElem?_getD, List.getElem?_eq_getElem hi]) 9 Tryz.underlying9
  rw [this]
  congr 3
  unfold strOfNums strB; rw [List.map_map]; congr 3
end Go.Proofs.YtiajjgehnmkokaaGreatDoor
end
section
namespace Go.Proofs.YtiajjgehnmkokaaGreatDoor
open Go.RowKit
def DInv (Vc : List Value) (Ph : (Nat → Bool) → World → Prop) (D : Nat → Bool) (V : Nat → Value) (w : World) : Prop := (∀ i, D i = true → V i = Vc.getD i undef) ∧ Ph D w
def yes : Value → Option Bool
 | .bool b => some b
 | _ => none
section
variable {P : Program} {Q : Exit → Act → World → Prop} {md : Region.Mode} {ops : Array Oper} {A : (Nat → Value) → Act} {Vc : List Value} {Ph : (Nat → Bool) → World → Prop} {i : Nat} {o : Oper}
theorem wp_region_inv0 {id : Nat} {a : Act} {w : World} {l : List Oper} (A : (Nat → Value) → Act) (I : (Nat → Bool) → (Nat → Value) → World → Prop) (hm : P.follows .mixedOrders = true) (hb : backB .any l 0 = true)
  (hn : nodupB (l.map (·.dst)) = true) (hA : ∀ V, putAll a V (l.map (·.dst)) 0 = A V) (hs : InvSteps P .any l.toArray Q A I l 0)
  (h0 : I (fun _ => false) (own0 a (l.map (·.dst))) { w with drawn := w.drawn + 1 })
  (hend : ∀ D V w', (∀ j, j < l.length → D j = true) → I D V w' → Q .normal (A V) w') : (Code.region id l.toArray true).wp P Q a w := by
 refine wp_region_any hm ?_
 have e0 : a = A (own0 a (l.map (·.dst))) := by
  rw [← hA, putAll_own]
  intro i d hi
  rw [Nat.zero_add, own0, hi]
 have h := inv_any (I := I) hb (fun V i o v ho => by
   rw [← hA, ← hA]
   have := putAll_upd (V := V) v (l.map (·.dst)) 0 i o.dst a hn (by rw [List.getElem?_map, ho]; rfl)
   rwa [Nat.zero_add] at this) hs hend l.toArray.size (Array.replicate l.toArray.size false) (own0 a (l.map (·.dst))) { w with drawn := w.drawn + 1 } (by simp) (by simpa using unl_le _ l.length)
   (by
    have e : (fun j => (Array.replicate l.toArray.size false).getD j false) = fun _ => false := by
     funext j
     by_cases h : j < l.length
     ·simp [h]
     ·simp [h]
    rw [e]; exact h0)
 rw [← e0] at h
 exact h
theorem DInv.next {D : Nat → Bool} {V : Nat → Value} {w w' : World} (h : DInv Vc Ph D V w) (v : Value) (hv : v = Vc.getD i undef) (hp : Ph (setD D i) w') : DInv Vc Ph (setD D i) (upd V i v) w' := by
 refine ⟨fun j hj => ?_, hp⟩
 unfold setD at hj
 unfold upd
 by_cases e : j = i
 ·subst e; rw [if_pos rfl]; exact hv
 ·rw [if_neg e] at hj; rw [if_neg e]; exact h.1 j hj
end
end Go.Proofs.YtiajjgehnmkokaaGreatDoor
end
section
namespace Go.Proofs.YtiajjgehnmkokaaGreatDoor
open Go.RowKit
def Wrote (w w' : World) (v v' : Value) : Prop := w.grownBy w' v.ownBlock ∧ (v'.ownBlock = v.ownBlock ∨ ∃ g, v'.ownBlock = some g ∧ w.heap.size ≤ g)
theorem Wrote.of_lies {w w' : World} {v v' : Value} (h : Lies w w' v v') : Wrote w w' v v' := by
 rcases h with ⟨h1, h2⟩ | ⟨h1, h2⟩
 ·exact ⟨h2, .inl h1⟩
 ·exact ⟨⟨h2.os, h2.tape, h2.output, h2.size, fun g hg _ => h2.block g hg nofun⟩, .inr ⟨_, h1, Nat.le_refl _⟩⟩
theorem Wrote.refl (w : World) (v : Value) : Wrote w w v v := ⟨World.grownBy.refl w _, .inl rfl⟩
theorem Wrote.below {w w' w2 : World} {v v' : Value} (h : Wrote w w' v v') (hb : Below w'.heap.size w' w2) : Wrote w w2 v v' :=
 ⟨⟨hb.os.trans h.1.os, hb.tape.trans h.1.tape, hb.output.trans h.1.output, Nat.le_trans h.1.size hb.size, fun g hg hne => (hb.block g (Nat.lt_of_lt_of_le hg h.1.size)).trans (h.1.block g hg hne)⟩, h.2⟩
theorem Wrote.of_below {w w' w2 : World} {v v' : Value} (hb : Below w.heap.size w w') (h : Wrote w' w2 v v') : Wrote w w2 v v' :=
 ⟨⟨h.1.os.trans hb.os, h.1.tape.trans hb.tape, h.1.output.trans hb.output, Nat.le_trans hb.size h.1.size, fun g hg hne => (h.1.block g (Nat.lt_of_lt_of_le hg hb.size) hne).trans (hb.block g hg)⟩,
  by rcases h.2 with h2 | ⟨g, h2, h3⟩
     · exact .inl h2
     · exact .inr ⟨g, h2, Nat.le_trans hb.size h3⟩⟩
theorem Wrote.trans {w w1 w2 : World} {v v1 v2 : Value} (h : Wrote w w1 v v1) (h' : Wrote w1 w2 v1 v2) : Wrote w w2 v v2 := by
 refine ⟨⟨h'.1.os.trans h.1.os, h'.1.tape.trans h.1.tape, h'.1.output.trans h.1.output, Nat.le_trans h.1.size h'.1.size, fun g hg hne => ?_⟩, ?_⟩
 ·refine (h'.1.block g (Nat.lt_of_lt_of_le hg h.1.size) ?_).trans (h.1.block g hg hne)
  rcases h.2 with h2 | ⟨g2, h2, h3⟩
  ·rw [h2]; exact hne
  ·rw [h2]; intro e; have := Option.some.inj e; omega
 ·rcases h'.2 with h2 | ⟨g2, h2, h3⟩
  ·rw [h2]; exact h.2
  ·exact .inr ⟨g2, h2, Nat.le_trans h.1.size h3⟩
theorem owns_below {w w' : World} {base : Nat} {e : TypeId} {size : Nat} {v : Value} {n : Nat} {xs : List Value} (h : w.ownsRow base e size v n xs) (hb : Below w.heap.size w w') : w'.ownsRow base e size v n xs := by
 obtain ⟨h1, h2 | ⟨g, cap, cur, e, hg, hrow, h3⟩⟩ := h
 ·exact ⟨h1, .inl h2⟩
 ·exact ⟨h1, .inr ⟨g, cap, cur, e, hg, (hb.block g (Array.getElem?_eq_some_iff.1 hrow).1).trans hrow, h3⟩⟩
theorem owns_block {w : World} {base : Nat} {e : TypeId} {size : Nat} {v : Value} {n : Nat} {xs : List Value} (h : w.ownsRow base e size v n xs) {g : Nat} (hg : v.ownBlock = some g) : base ≤ g ∧ g < w.heap.size := by
 obtain ⟨_, ⟨rfl, _⟩ | ⟨b, cap, cur, rfl, hb, hrow, _⟩⟩ := h
 ·cases hg
 ·obtain rfl : b = g := Option.some.inj hg
  exact ⟨hb, (Array.getElem?_eq_some_iff.1 hrow).1⟩
theorem owns_same {w w' : World} {base : Nat} {e : TypeId} {size : Nat} {v : Value} {n : Nat} {xs : List Value} (h : w.ownsRow base e size v n xs) (hb : ∀ g, v.ownBlock = some g → w'.heap[g]? = w.heap[g]?) : w'.ownsRow base e size v n xs := by
 obtain ⟨h1, h2 | ⟨g, cap, cur, rfl, hg, hrow, h3⟩⟩ := h
 ·exact ⟨h1, .inl h2⟩
 ·exact ⟨h1, .inr ⟨g, cap, cur, rfl, hg, (hb g rfl).trans hrow, h3⟩⟩
end Go.Proofs.YtiajjgehnmkokaaGreatDoor
end
section
namespace Go.Proofs.YtiajjgehnmkokaaGreatDoor
open Go.RowKit
open Seal
open Bson (Val)
structure Lim (x : Val) : Prop where
 k0 : -9223372036854775808 ≤ x.kind
 k1 : x.kind ≤ 9223372036854775807
 n0 : -9223372036854775808 ≤ x.n
 n1 : x.n ≤ 9223372036854775807
 s : x.s.size ≤ 140737488355328
 b : x.b.length ≤ 140737488355328
 f : x.f.length ≤ 1172812402961
 l : x.l.length ≤ 1353245080339
 o : Oct x.b
def SixAt (w : World) (g p : Nat) (v : Value) : Prop := ∃ c0 c1 c2 c3 c4 c5, v = .agg #[c0, c1, c2, c3, c4, c5] ∧ w.cell? ⟨g, p, none⟩ = some c0 ∧ w.cell? ⟨g, p + 1, none⟩ = some c1 ∧ w.cell? ⟨g, p + 2, none⟩ = some c2 ∧ w.cell? ⟨g, p + 3, none⟩ = some c3 ∧ w.cell? ⟨g, p + 4, none⟩ = some c4 ∧ w.cell? ⟨g, p + 5, none⟩ = some c5
def BytesIn (w : World) (Q : Nat → Prop) (a : Option Addr) (l : List Nat) : Prop := l = [] ∨ ∃ g o, a = some ⟨g, o, none⟩ ∧ Q g ∧ Reads w g o l
def FieldsIn (w : World) (Q : Nat → Prop) (V : Val → Value → Prop) (a : Option Addr) (f : List (ByteArray × Val)) : Prop :=
 f = [] ∨ ∃ g o, a = some ⟨g, o, none⟩ ∧ Q g ∧ ∀ i (hi : i < f.length), w.cell? ⟨g, o + i * 7, none⟩ = some (.string f[i].1) ∧ f[i].1.size ≤ 140737488355328 ∧ ∃ v, SixAt w g (o + i * 7 + 1) v ∧ V f[i].2 v
def ItemsIn (w : World) (Q : Nat → Prop) (V : Val → Value → Prop) (a : Option Addr) (l : List Val) : Prop :=
 l = [] ∨ ∃ g o, a = some ⟨g, o, none⟩ ∧ Q g ∧ ∀ i (hi : i < l.length), ∃ v, SixAt w g (o + i * 6) v ∧ V l[i] v
def agg (x : Val) (ba fa la : Option Addr) (bc fc lc : Nat) : Value :=
 .agg #[.int .i64 x.kind, .int .i64 x.n, .string x.s, .slice ba x.b.length bc, .slice fa x.f.length fc, .slice la x.l.length lc]
def VIn (w : World) (Q : Nat → Prop) : Nat → Val → Value → Prop
 | 0, _, _ => False
 | h + 1, x, v => ∃ ba fa la bc fc lc, v = agg x ba fa la bc fc lc ∧ Lim x ∧ (x.b.length ≤ bc ∧ bc ≤ 9223372036854775807) ∧ (x.f.length ≤ fc ∧ fc ≤ 9223372036854775807) ∧ (x.l.length ≤ lc ∧ lc ≤ 9223372036854775807) ∧
   BytesIn w Q ba x.b ∧ FieldsIn w Q (VIn w Q h) fa x.f ∧ ItemsIn w Q (VIn w Q h) la x.l
def Kept (Q : Nat → Prop) (w w' : World) : Prop := ∀ g, Q g → g < w.heap.size → w'.heap[g]? = w.heap[g]?
theorem Kept.of_below {Q : Nat → Prop} {w w' : World} (hb : Below w.heap.size w w') : Kept Q w w' := fun g _ hg => hb.block g hg
theorem Kept.cell {Q : Nat → Prop} {w w' : World} (h : Kept Q w w') {g o : Nat} {v : Value} (hq : Q g) (hc : w.cell? ⟨g, o, none⟩ = some v) : w'.cell? ⟨g, o, none⟩ = some v :=
 (World.cell?_of_block (a := ⟨g, o, none⟩) (h g hq (World.block_lt_of_cell? w _ hc))).trans hc
theorem SixAt.kept {Q : Nat → Prop} {w w' : World} {g p : Nat} {v : Value} (h : SixAt w g p v) (hb : Kept Q w w') (hq : Q g) : SixAt w' g p v := by
 obtain ⟨c0, c1, c2, c3, c4, c5, e, h0, h1, h2, h3, h4, h5⟩ := h
 exact ⟨c0, c1, c2, c3, c4, c5, e, hb.cell hq h0, hb.cell hq h1, hb.cell hq h2, hb.cell hq h3, hb.cell hq h4, hb.cell hq h5⟩
theorem SixAt.keep {w w' : World} {g p : Nat} {v : Value} (h : SixAt w g p v) (hb : Below w.heap.size w w') : SixAt w' g p v :=
 h.kept (Q := fun _ => True) (Kept.of_below hb) trivial
theorem BytesIn.kept {Q Q' : Nat → Prop} {w w' : World} {a : Option Addr} {l : List Nat} (h : BytesIn w Q a l) (hb : Kept Q w w') (hQ : ∀ g, Q g → Q' g) : BytesIn w' Q' a l := by
 rcases h with h | ⟨g, o, e, hq, h⟩
 ·exact .inl h
 ·exact .inr ⟨g, o, e, hQ g hq, fun j hj => hb.cell hq (h j hj)⟩
theorem FieldsIn.kept {Q Q' : Nat → Prop} {w w' : World} {V V' : Val → Value → Prop} {a : Option Addr} {f : List (ByteArray × Val)} (h : FieldsIn w Q V a f) (hb : Kept Q w w') (hQ : ∀ g, Q g → Q' g) (hV : ∀ x v, V x v → V' x v) : FieldsIn w' Q' V' a f := by
 rcases h with h | ⟨g, o, e, hq, h⟩
 ·exact .inl h
 ·refine .inr ⟨g, o, e, hQ g hq, fun i hi => ?_⟩
  obtain ⟨h1, h2, v, h3, h4⟩ := h i hi
  exact ⟨hb.cell hq h1, h2, v, h3.kept hb hq, hV _ _ h4⟩
theorem ItemsIn.kept {Q Q' : Nat → Prop} {w w' : World} {V V' : Val → Value → Prop} {a : Option Addr} {l : List Val} (h : ItemsIn w Q V a l) (hb : Kept Q w w') (hQ : ∀ g, Q g → Q' g) (hV : ∀ x v, V x v → V' x v) : ItemsIn w' Q' V' a l := by
 rcases h with h | ⟨g, o, e, hq, h⟩
 ·exact .inl h
 ·refine .inr ⟨g, o, e, hQ g hq, fun i hi => ?_⟩
  obtain ⟨v, h3, h4⟩ := h i hi
  exact ⟨v, h3.kept hb hq, hV _ _ h4⟩
theorem VIn.kept {w w' : World} {Q Q' : Nat → Prop} (hb : Kept Q w w') (hQ : ∀ g, Q g → Q' g) : ∀ {h : Nat} {x : Val} {v : Value}, VIn w Q h x v → VIn w' Q' h x v
 | 0, _, _, h => h.elim
 | _ + 1, _, _, ⟨ba, fa, la, bc, fc, lc, e, h1, h2, h3, h4, h5, h6, h7⟩ =>
  ⟨ba, fa, la, bc, fc, lc, e, h1, h2, h3, h4, h5.kept hb hQ, h6.kept hb hQ (fun _ _ h => VIn.kept hb hQ h), h7.kept hb hQ (fun _ _ h => VIn.kept hb hQ h)⟩
theorem VIn.keep {w w' : World} {Q : Nat → Prop} (hb : Below w.heap.size w w') {h : Nat} {x : Val} {v : Value} (hv : VIn w Q h x v) : VIn w' Q h x v := VIn.kept (Kept.of_below hb) (fun _ h => h) hv
theorem VIn.up {w : World} {Q : Nat → Prop} : ∀ {h : Nat} {x : Val} {v : Value}, VIn w Q h x v → ∀ {h' : Nat}, h ≤ h' → VIn w Q h' x v
 | 0, _, _, h, _, _ => h.elim
 | h + 1, x, v, ⟨ba, fa, la, bc, fc, lc, e, h1, h2, h3, h4, h5, h6, h7⟩, h', hle => by
  obtain ⟨h', rfl⟩ : ∃ k, h' = k + 1 := ⟨h' - 1, by omega⟩
  have k : ∀ x v, VIn w Q h x v → VIn w Q h' x v := fun x v hv => VIn.up hv (by omega)
  exact ⟨ba, fa, la, bc, fc, lc, e, h1, h2, h3, h4, h5, h6.kept (Kept.of_below (Below.refl _ _)) (fun _ h => h) k, h7.kept (Kept.of_below (Below.refl _ _)) (fun _ h => h) k⟩
theorem BytesIn.slice {w : World} {Q : Nat → Prop} {a : Option Addr} {l : List Nat} (h : BytesIn w Q a l) : SliceIs w a l := by
 rcases h with h | ⟨g, o, e, _, h⟩
 ·exact .inl h
 ·exact .inr ⟨g, o, e, h⟩
end Go.Proofs.YtiajjgehnmkokaaGreatDoor
end
section
namespace Order
open Go
open Bson (Val)
def cls (k : Int) : Int := if k < 0 ∨ 12 < k then -1 else if k ≤ 3 then k else k - 1
def sgn (a b : Int) : Int := if a < b then -1 else if b < a then 1 else 0
theorem sgn_lt {a b : Int} (h : a < b) : sgn a b = -1 := if_pos h
theorem sgn_gt {a b : Int} (h : b < a) : sgn a b = 1 := by rw [sgn, if_neg (by omega), if_pos h]
theorem sgn_self (a : Int) : sgn a a = 0 := by rw [sgn, if_neg (by omega), if_neg (by omega)]
theorem sgn_zero {a b : Int} : sgn a b = 0 ↔ a = b := by
 unfold sgn
 constructor
 ·intro h
  split at h
  ·omega
  ·split at h <;> omega
 ·intro h
  rw [if_neg (by omega), if_neg (by omega)]
structure IsCmp {α : Type} (c : α → α → Int) : Prop where
 one : ∀ a b, c a b = -1 ∨ c a b = 0 ∨ c a b = 1
 anti : ∀ a b, c a b = - c b a
 trans : ∀ a b d, c a b ≤ 0 → c b d ≤ 0 → c a d ≤ 0
section
variable {α β : Type} {c : α → α → Int}
theorem IsCmp.refl (h : IsCmp c) (a : α) : c a a = 0 := by have := h.anti a a; omega
theorem IsCmp.lt_le (h : IsCmp c) {a b d : α} (h1 : c a b < 0) (h2 : c b d ≤ 0) : c a d < 0 := by
 have h3 := h.trans a b d (by omega) h2
 by_cases e : c a d = 0
 ·have h4 := h.anti d a
  have h5 := h.trans b d a h2 (by omega)
  have h6 := h.anti a b
  omega
 ·omega
theorem IsCmp.left (h : IsCmp c) {a b : α} (d : α) (e : c a b = 0) : c a d = c b d := by
 have e2 := h.anti b a
 have p1 := h.one a d
 have p2 := h.one b d
 have q1 := h.anti a d
 have q2 := h.anti b d
 have t1 := fun x => h.trans a b d (by omega) x
 have t2 := fun x => h.trans b a d (by omega) x
 have t3 := fun x => h.trans d a b x (by omega)
 have t4 := fun x => h.trans d b a x (by omega)
 rcases p1 with p1 | p1 | p1
 ·have := t2 (by omega)
  by_cases z : c b d = 0
  ·have := t4 (by omega); omega
  ·omega
 ·have := t2 (by omega)
  have := t3 (by omega)
  omega
 ·have := t3 (by omega)
  by_cases z : c b d = 0
  ·have := t1 (by omega); omega
  ·omega
theorem IsCmp.right (h : IsCmp c) {a b : α} (d : α) (e : c a b = 0) : c d a = c d b := by
 have := h.left d e
 have := h.anti d a
 have := h.anti d b
 omega
theorem IsCmp.nought : IsCmp (fun _ _ : α => (0 : Int)) := ⟨fun _ _ => .inr (.inl rfl), fun _ _ => rfl, fun _ _ _ _ _ => Int.le_refl _⟩
theorem IsCmp.on {c : β → β → Int} (h : IsCmp c) (f : α → β) : IsCmp (fun a b => c (f a) (f b)) :=
 ⟨fun _ _ => h.one _ _, fun _ _ => h.anti _ _, fun _ _ _ => h.trans _ _ _⟩
theorem IsCmp.sgn : IsCmp sgn := by
 refine ⟨fun a b => ?_, fun a b => ?_, fun a b d => ?_⟩
 ·unfold Order.sgn; split
  ·omega
  ·split <;> omega
 ·rcases Int.lt_trichotomy a b with h | h | h
  ·rw [sgn_lt h, sgn_gt h]
  ·rw [sgn_zero.2 h, sgn_zero.2 h.symm]; rfl
  ·rw [sgn_gt h, sgn_lt h]; rfl
 ·intro h1 h2
  have h1' : a ≤ b := by
   unfold Order.sgn at h1; split at h1
   ·omega
   ·split at h1 <;> omega
  have h2' : b ≤ d := by
   unfold Order.sgn at h2; split at h2
   ·omega
   ·split at h2 <;> omega
  unfold Order.sgn; split
  ·omega
  ·rw [if_neg (by omega)]; omega
theorem IsCmp.next {κ : Type} {d : κ → α → α → Int} (h : IsCmp c) (hd : ∀ k, IsCmp (d k)) (f : α → κ) (hf : ∀ a b, c a b = 0 → f a = f b) : IsCmp (fun a b => if c a b = 0 then d (f a) a b else c a b) := by
 refine ⟨fun a b => ?_, fun a b => ?_, fun a b e => ?_⟩
 ·show (if c a b = 0 then d (f a) a b else c a b) = -1 ∨ (if c a b = 0 then d (f a) a b else c a b) = 0 ∨ (if c a b = 0 then d (f a) a b else c a b) = 1
  split
  ·exact (hd _).one _ _
  ·exact h.one _ _
 ·show (if c a b = 0 then d (f a) a b else c a b) = - (if c b a = 0 then d (f b) b a else c b a)
  have := h.anti a b
  by_cases e : c a b = 0
  ·rw [if_pos e, if_pos (by omega), ← hf a b e]; exact (hd _).anti _ _
  ·rw [if_neg e, if_neg (by omega)]; exact this
 ·show (if c a b = 0 then d (f a) a b else c a b) ≤ 0 → (if c b e = 0 then d (f b) b e else c b e) ≤ 0 → (if c a e = 0 then d (f a) a e else c a e) ≤ 0
  intro h1 h2
  by_cases e1 : c a b = 0
  ·rw [if_pos e1] at h1
   have hl := h.left e e1
   by_cases e2 : c b e = 0
   ·rw [if_pos e2] at h2
    rw [if_pos (by omega)]
    rw [← hf a b e1] at h2
    exact (hd _).trans _ _ _ h1 h2
   ·rw [if_neg e2] at h2
    rw [if_neg (by omega)]; omega
  ·rw [if_neg e1] at h1
   by_cases e2 : c b e = 0
   ·have hr := h.right a e2
    rw [if_neg (by omega)]; omega
   ·rw [if_neg e2] at h2
    have := h.lt_le (a := a) (b := b) (d := e) (by omega) (by omega)
    rw [if_neg (by omega)]; omega
def lex (c : α → α → Int) : List α → List α → Int
 | [], [] => 0
 | [], _ :: _ => -1
 | _ :: _, [] => 1
 | a :: r, b :: s => if c a b = 0 then lex c r s else c a b
theorem IsCmp.lex (h : IsCmp c) : IsCmp (lex c) := by
 refine ⟨?_, ?_, ?_⟩
 ·intro a
  induction a with
  | nil => intro b; cases b <;> simp [Order.lex]
  | cons x r ih =>
   intro b
   cases b with
   | nil => simp [Order.lex]
   | cons y s =>
    rw [Order.lex]
    split
    ·exact ih s
    ·exact h.one _ _
 ·intro a
  induction a with
  | nil => intro b; cases b <;> simp [Order.lex]
  | cons x r ih =>
   intro b
   cases b with
   | nil => simp [Order.lex]
   | cons y s =>
    rw [Order.lex, Order.lex]
    have := h.anti x y
    by_cases e : c x y = 0
    ·rw [if_pos e, if_pos (by omega)]; exact ih s
    ·rw [if_neg e, if_neg (by omega)]; exact this
 ·intro a
  induction a with
  | nil =>
   intro b d _ h2
   cases d with
   | nil => simp [Order.lex]
   | cons z t => simp [Order.lex]
  | cons x r ih =>
   intro b d h1 h2
   cases b with
   | nil => simp [Order.lex] at h1
   | cons y s =>
    cases d with
    | nil => simp [Order.lex] at h2
    | cons z t =>
     rw [Order.lex] at h1 h2 ⊢
     by_cases e1 : c x y = 0
     ·rw [if_pos e1] at h1
      have hl := h.left z e1
      by_cases e2 : c y z = 0
      ·rw [if_pos e2] at h2
       rw [if_pos (by omega)]; exact ih s t h1 h2
      ·rw [if_neg e2] at h2
       rw [if_neg (by omega)]; omega
     ·rw [if_neg e1] at h1
      by_cases e2 : c y z = 0
      ·have hr := h.right x e2
       rw [if_neg (by omega)]; omega
      ·rw [if_neg e2] at h2
       have := h.lt_le (a := x) (b := y) (d := z) (by omega) (by omega)
       rw [if_neg (by omega)]; omega
theorem lex_step {a b : List α} {k : Nat} (ha : k < a.length) (hb : k < b.length) (e : c a[k] b[k] = 0) : lex c (a.drop k) (b.drop k) = lex c (a.drop (k + 1)) (b.drop (k + 1)) := by
 rw [List.drop_eq_getElem_cons ha, List.drop_eq_getElem_cons hb, lex, if_pos e]
theorem lex_here {a b : List α} {k : Nat} (ha : k < a.length) (hb : k < b.length) (e : c a[k] b[k] ≠ 0) : lex c (a.drop k) (b.drop k) = c a[k] b[k] := by
 rw [List.drop_eq_getElem_cons ha, List.drop_eq_getElem_cons hb, lex, if_neg e]
theorem lex_end {a b : List α} {k : Nat} (ha : k ≤ a.length) (hb : k ≤ b.length) (e : k = a.length ∨ k = b.length) : lex c (a.drop k) (b.drop k) = sgn a.length b.length := by
 rcases e with e | e
 ·subst e
  rw [List.drop_eq_nil_of_le (Nat.le_refl _)]
  by_cases h : a.length < b.length
  ·rw [List.drop_eq_getElem_cons h, lex, sgn_lt (by omega)]
  ·rw [List.drop_eq_nil_of_le (by omega), lex, sgn_zero.2 (by omega)]
 ·subst e
  rw [List.drop_eq_nil_of_le (Nat.le_refl b.length)]
  by_cases h : b.length < a.length
  ·rw [List.drop_eq_getElem_cons h, lex, sgn_gt (by omega)]
  ·rw [List.drop_eq_nil_of_le (by omega), lex, sgn_zero.2 (by omega)]
end
def oct (a b : Nat) : Int := sgn a b
def octs (a b : List Nat) : Int := lex oct a b
def bytes (s : ByteArray) : List Nat := s.data.toList.map UInt8.toNat
def text (a b : ByteArray) : Int := octs (bytes a) (bytes b)
theorem oct_cmp : IsCmp oct := IsCmp.on (c := sgn) IsCmp.sgn (fun a : Nat => (a : Int))
theorem octs_cmp : IsCmp octs := oct_cmp.lex
theorem text_cmp : IsCmp text := octs_cmp.on bytes
theorem compareBytes_octs : ∀ (a b : List UInt8), Lib.compareBytes a b = octs (a.map UInt8.toNat) (b.map UInt8.toNat)
 | [], [] => rfl
 | [], _ :: _ => rfl
 | _ :: _, [] => rfl
 | x :: r, y :: s => by
  have ih := compareBytes_octs r s
  rw [Lib.compareBytes, List.map_cons, List.map_cons, octs, lex]
  rw [octs] at ih
  rw [← ih]
  by_cases h : x < y
  ·have h' : x.toNat < y.toNat := UInt8.lt_iff_toNat_lt.1 h
   have e : oct x.toNat y.toNat = -1 := sgn_lt (by omega)
   rw [if_pos h, e, if_neg (by decide)]
  ·by_cases h2 : y < x
   ·have h' : y.toNat < x.toNat := UInt8.lt_iff_toNat_lt.1 h2
    have e : oct x.toNat y.toNat = 1 := sgn_gt (by omega)
    rw [if_neg h, if_pos h2, e, if_neg (by decide)]
   ·have h3 : ¬ x.toNat < y.toNat := fun e => h (UInt8.lt_iff_toNat_lt.2 e)
    have h4 : ¬ y.toNat < x.toNat := fun e => h2 (UInt8.lt_iff_toNat_lt.2 e)
    have e : oct x.toNat y.toNat = 0 := sgn_zero.2 (by omega)
    rw [if_neg h, if_neg h2, e, if_pos rfl]
theorem compareBytes_text (a b : ByteArray) : Lib.compareBytes a.data.toList b.data.toList = text a b := compareBytes_octs _ _
def fld (c : Val → Val → Int) (p q : ByteArray × Val) : Int :=
 if sgn (cls p.2.kind) (cls q.2.kind) = 0 then (if text p.1 q.1 = 0 then c p.2 q.2 else text p.1 q.1) else sgn (cls p.2.kind) (cls q.2.kind)
def blob (a b : List Nat) : Int := if sgn a.length b.length = 0 then octs a b else sgn a.length b.length
def inner (c : Val → Val → Int) (k : Int) (x y : Val) : Int :=
 if k = 3 ∨ k = 9 ∨ k = 10 then sgn x.n y.n
 else if k = 4 then text x.s y.s
 else if k = 5 then lex (fld c) x.f y.f
 else if k = 6 then lex c x.l y.l
 else if k = 7 then blob x.b y.b
 else if k = 8 then octs x.b y.b
 else 0
def cmp : Nat → Val → Val → Int
 | 0, _, _ => 0
 | h + 1, x, y => if sgn (cls x.kind) (cls y.kind) = 0 then inner (cmp h) (cls x.kind) x y else sgn (cls x.kind) (cls y.kind)
theorem fld_cmp {c : Val → Val → Int} (h : IsCmp c) : IsCmp (fld c) := by
 have h1 : IsCmp (fun p q : ByteArray × Val => c p.2 q.2) := h.on (fun p : ByteArray × Val => p.2)
 have h2 : IsCmp (fun p q : ByteArray × Val => if text p.1 q.1 = 0 then c p.2 q.2 else text p.1 q.1) :=
  IsCmp.next (c := fun p q : ByteArray × Val => text p.1 q.1) (d := fun (_ : Unit) (p q : ByteArray × Val) => c p.2 q.2) (text_cmp.on (fun p : ByteArray × Val => p.1)) (fun _ => h1) (fun _ => ()) (fun _ _ _ => rfl)
 exact IsCmp.next (c := fun p q : ByteArray × Val => sgn (cls p.2.kind) (cls q.2.kind)) (d := fun (_ : Unit) (p q : ByteArray × Val) => if text p.1 q.1 = 0 then c p.2 q.2 else text p.1 q.1)
  (IsCmp.on IsCmp.sgn (fun p : ByteArray × Val => cls p.2.kind)) (fun _ => h2) (fun _ => ()) (fun _ _ _ => rfl)
theorem blob_cmp : IsCmp blob :=
 IsCmp.next (IsCmp.on IsCmp.sgn (fun a : List Nat => (a.length : Int))) (d := fun _ : Unit => octs) (fun _ => octs_cmp) (fun _ => ()) (fun _ _ _ => rfl)
theorem inner_cmp {c : Val → Val → Int} (h : IsCmp c) (k : Int) : IsCmp (inner c k) := by
 by_cases e1 : k = 3 ∨ k = 9 ∨ k = 10
 ·have : inner c k = fun x y => sgn x.n y.n := by funext x y; rw [inner, if_pos e1]
  rw [this]; exact IsCmp.on IsCmp.sgn _
 by_cases e2 : k = 4
 ·have : inner c k = fun x y => text x.s y.s := by funext x y; rw [inner, if_neg e1, if_pos e2]
  rw [this]; exact IsCmp.on text_cmp Val.s
 by_cases e3 : k = 5
 ·have : inner c k = fun x y => lex (fld c) x.f y.f := by funext x y; rw [inner, if_neg e1, if_neg e2, if_pos e3]
  rw [this]; exact IsCmp.on (IsCmp.lex (fld_cmp h)) Val.f
 by_cases e4 : k = 6
 ·have : inner c k = fun x y => lex c x.l y.l := by funext x y; rw [inner, if_neg e1, if_neg e2, if_neg e3, if_pos e4]
  rw [this]; exact IsCmp.on (IsCmp.lex h) Val.l
 by_cases e5 : k = 7
 ·have : inner c k = fun x y => blob x.b y.b := by funext x y; rw [inner, if_neg e1, if_neg e2, if_neg e3, if_neg e4, if_pos e5]
  rw [this]; exact IsCmp.on blob_cmp Val.b
 by_cases e6 : k = 8
 ·have : inner c k = fun x y => octs x.b y.b := by funext x y; rw [inner, if_neg e1, if_neg e2, if_neg e3, if_neg e4, if_neg e5, if_pos e6]
  rw [this]; exact IsCmp.on octs_cmp Val.b
 ·have : inner c k = fun _ _ => 0 := by funext x y; rw [inner, if_neg e1, if_neg e2, if_neg e3, if_neg e4, if_neg e5, if_neg e6]
  rw [this]; exact IsCmp.nought
theorem cmp_cmp : ∀ h, IsCmp (cmp h)
 | 0 => IsCmp.nought
 | h + 1 => IsCmp.next (IsCmp.on IsCmp.sgn (fun x : Val => cls x.kind)) (inner_cmp (cmp_cmp h)) (fun x => cls x.kind) (fun _ _ e => sgn_zero.1 e)
def byFrom {α : Type} (c : α → α → Int) (z : α) (a b : List α) (down : List Bool) : Nat → Nat → Int
 | 0, _ => 0
 | n + 1, i => if c (a.getD i z) (b.getD i z) = 0 then byFrom c z a b down n (i + 1) else if down.getD i false then - c (a.getD i z) (b.getD i z) else c (a.getD i z) (b.getD i z)
def rows {α : Type} (c : α → α → Int) (z : α) (a b : List α) (down : List Bool) : Int := byFrom c z a b down (max a.length b.length) 0
def turned {α : Type} (c : α → α → Int) (down : Bool) (x y : α) : Int := if down then - c x y else c x y
theorem turned_cmp {α : Type} {c : α → α → Int} (h : IsCmp c) (down : Bool) : IsCmp (turned c down) := by
 cases down with
 | false => exact h
 | true =>
  refine ⟨fun a b => ?_, fun a b => ?_, fun a b d => ?_⟩
  ·have := h.one a b
   show - c a b = -1 ∨ - c a b = 0 ∨ - c a b = 1
   omega
  ·have := h.anti a b
   show - c a b = - - c b a
   omega
  ·show - c a b ≤ 0 → - c b d ≤ 0 → - c a d ≤ 0
   have h1 := h.trans d b a
   have a1 := h.anti a b
   have a2 := h.anti b d
   have a3 := h.anti a d
   intro x y
   have := h1 (by omega) (by omega)
   omega
structure Best {α : Type} (c : α → α → Int) (z : α) (l : List α) (n k : Nat) : Prop where
 lt : k < n
 ahead : ∀ j, j < k → 0 < c (l.getD j z) (l.getD k z)
 behind : ∀ j, k < j → j < n → 0 ≤ c (l.getD j z) (l.getD k z)
section
variable {α : Type} {c : α → α → Int} {z : α} {l : List α} {n k : Nat}
theorem Best.first : Best c z l 1 0 := ⟨by omega, fun j h => by omega, fun j h1 h2 => by omega⟩
theorem Best.turn (hc : IsCmp c) (h : Best c z l n k) (e : c (l.getD n z) (l.getD k z) < 0) : Best c z l (n + 1) n :=
 ⟨by omega, fun j hj => by
  have h1 : 0 ≤ c (l.getD j z) (l.getD k z) := by
   by_cases e1 : j < k
   ·have := h.ahead j e1; omega
   ·by_cases e2 : j = k
    ·subst e2; have := hc.refl (l.getD j z); omega
    ·exact h.behind j (by omega) hj
  have a1 := hc.anti (l.getD j z) (l.getD k z)
  have a2 := hc.anti (l.getD j z) (l.getD n z)
  have := hc.lt_le e (show c (l.getD k z) (l.getD j z) ≤ 0 by omega)
  omega, fun j h1 h2 => by omega⟩
theorem Best.same (hc : IsCmp c) {k' : Nat} (h : Best c z l n k) (h' : Best c z l n k') : k = k' := by
 have a1 := hc.anti (l.getD k z) (l.getD k' z)
 have l1 := h.lt
 have l2 := h'.lt
 rcases Nat.lt_trichotomy k k' with e | e | e
 ·have := h'.ahead k e; have := h.behind k' e l2; omega
 ·exact e
 ·have := h.ahead k' e; have := h'.behind k e l1; omega
theorem Best.all (hc : IsCmp c) (h : Best c z l n k) (j : Nat) (hj : j < n) : 0 ≤ c (l.getD j z) (l.getD k z) := by
 by_cases e1 : j < k
 ·have := h.ahead j e1; omega
 ·by_cases e2 : j = k
  ·subst e2; have := hc.refl (l.getD j z); omega
  ·exact h.behind j (by omega) hj
end
def CutIs (h : Nat) (down : Bool) (x y : Val) : Prop :=
 (x.kind ≠ 7 ∧ y = x) ∨ (x.kind = 7 ∧ x.l = [] ∧ y = Bson.zero) ∨ (x.kind = 7 ∧ ∃ k, Best (turned (cmp h) down) Bson.zero x.l x.l.length k ∧ y = x.l.getD k Bson.zero)
theorem CutIs.same {h : Nat} {down : Bool} {x y y' : Val} (h1 : CutIs h down x y) (h2 : CutIs h down x y') : y = y' := by
 rcases h1 with ⟨k1, e1⟩ | ⟨k1, n1, e1⟩ | ⟨k1, k, b1, e1⟩
 ·rcases h2 with ⟨_, e2⟩ | ⟨k2, _⟩ | ⟨k2, _⟩
  ·rw [e1, e2]
  ·exact absurd k2 k1
  ·exact absurd k2 k1
 ·rcases h2 with ⟨k2, _⟩ | ⟨_, _, e2⟩ | ⟨_, k, b2, _⟩
  ·exact absurd k1 k2
  ·rw [e1, e2]
  ·have := b2.lt; rw [n1] at this; simp at this
 ·rcases h2 with ⟨k2, _⟩ | ⟨_, n2, _⟩ | ⟨_, k', b2, e2⟩
  ·exact absurd k1 k2
  ·have := b1.lt; rw [n2] at this; simp at this
  ·have := Best.same (turned_cmp (cmp_cmp h) down) b1 b2
   rw [e1, e2, this]
end Order
end
section
namespace Bson
open Go
def fieldIn : List (ByteArray × Val) → ByteArray → Val
 | [], _ => zero
 | (s, v) :: r, a => if s = a then v else fieldIn r a
def listOf (l : List Val) : Val := .mk 7 0 none_ [] [] l
def reach : Nat → Val → List ByteArray → Val
 | _, x, [] => x
 | 0, _, _ :: _ => zero
 | n + 1, x, a :: r => if x.kind = 6 then reach n (fieldIn x.f a) r else if x.kind = 7 then listOf ((x.l.map fun y => reach n y (a :: r)).filter fun y => decide (y.kind ≠ 0)) else zero
def itself (x : Val) : List Val := x :: (if x.kind = 7 then x.l else [])
def all : Nat → Val → List ByteArray → List Val
 | _, x, [] => itself x
 | 0, _, _ :: _ => [zero]
 | n + 1, x, a :: r =>
  if x.kind = 6 then (if (fieldIn x.f a).kind = 0 then [zero] else all n (fieldIn x.f a) r)
  else if x.kind = 7 then (if (x.l.filter fun y => decide (y.kind = 6)).isEmpty then [zero] else (x.l.filter fun y => decide (y.kind = 6)).flatMap fun y => all n y (a :: r))
  else [zero]
theorem reach_nil (n : Nat) (x : Val) : reach n x [] = x := by cases n <;> rfl
theorem reach_doc (n : Nat) (x : Val) (a : ByteArray) (r : List ByteArray) (h : x.kind = 6) : reach (n + 1) x (a :: r) = reach n (fieldIn x.f a) r := by rw [reach, if_pos h]
theorem reach_list (n : Nat) (x : Val) (a : ByteArray) (r : List ByteArray) (h : x.kind = 7) : reach (n + 1) x (a :: r) = listOf ((x.l.map fun y => reach n y (a :: r)).filter fun y => decide (y.kind ≠ 0)) := by rw [reach, if_neg (by omega), if_pos h]
theorem reach_other (n : Nat) (x : Val) (a : ByteArray) (r : List ByteArray) (h6 : x.kind ≠ 6) (h7 : x.kind ≠ 7) : reach n x (a :: r) = zero := by
 cases n with
 | zero => rfl
 | succ n => rw [reach, if_neg h6, if_neg h7]
end Bson
end
section
namespace Go.Proofs.YtiajjgehnmkokaaGreatDoor
open Go.RowKit
section
variable {P : Program} {Q : Exit → Act → World → Prop} {md : Region.Mode}
theorem fact_on {ops : Array Oper} {A : (Nat → Value) → Act} {w0 : World} {fs : List Fact} {i : Nat} {o : Oper} (j : Nat) (b : Bool) (hg : o.guard = some (j, b)) (ha : (o.after.any fun e => Region.binds md e && e.on == j) = true) (hy : ∀ V, yielded ops (A V).tmps j = yes (V j)) (hv : ∀ v w, (factAt fs j).p v w → v = .bool b)
  (h : ∀ (V : Nat → Value) (w : World), Below w0.heap.size w0 w → Shut (∀ j, (o.after.any fun e => Region.binds md e && e.on == j) = true → (factAt fs j).p (V j) w) →
   ∀ K : Act → World → Prop, Shut (∀ v w', Below w.heap.size w w' → (factAt fs i).p v w' → K ((A V).put o.dst v) w') → Oper.wp P o (A V) w K Q) : FactStep P md ops Q A w0 fs i o := by
 intro V w hB hF K hK
 have e : V j = .bool b := hv _ _ (hF.out j ha)
 rw [if_pos (show Region.wanted o (yielded ops (A V).tmps) = true by simp [Region.wanted, hg, hy, e, yes])]
 exact h V w hB hF K (fun v w' h1 h2 => hK _ v w' rfl h1 h2)
end
end Go.Proofs.YtiajjgehnmkokaaGreatDoor
end
section
namespace Go.Proofs.YtiajjgehnmkokaaGreatDoor
open Go.RowKit
open Seal
open Bson (Val)
theorem ret_eq {a b : Value} (h : a = b) : Ending.returned a = .returned b := by rw [h]
def SomeBool (w : World) (e : Ending) (w' : World) : Prop := ∃ b, e = .returned (.bool b) ∧ Below w.heap.size w w'
theorem cell_keep {w w' : World} {p : Addr} {v : Value} (hb : Below w.heap.size w w') (h : w.cell? p = some v) : w'.cell? p = some v := (hb.cell (World.block_lt_of_cell? w _ h)).trans h
def Boxed (w : World) (cs : Array Value) (t : TypeId) (wr : World) : Prop := Below (w.heap.size + 1) (w.alloc (.cells cs t)) wr
section
variable {w wr w' : World} {cs : Array Value} {t : TypeId}
theorem Boxed.refl (w : World) (cs : Array Value) (t : TypeId) : Boxed w cs t (w.alloc (.cells cs t)) := Below.refl _ _
theorem Boxed.cell (h : Boxed w cs t wr) (j : Nat) : wr.cell? ⟨w.heap.size, j, none⟩ = cs[j]? :=
 (Below.cell h (p := ⟨w.heap.size, j, none⟩) (Nat.lt_succ_self _)).trans (cell_of_row _ _ j cs t (0, 0) (heap_alloc_new w _))
theorem Boxed.size (h : Boxed w cs t wr) : w.heap.size + 1 ≤ wr.heap.size := by have := Below.size h; simpa using this
theorem Boxed.below (h : Boxed w cs t wr) : Below w.heap.size w wr := ((Below.refl _ w).alloc (Nat.le_refl _) _).trans (Below.mono h (by simp))
theorem Boxed.step (h : Boxed w cs t wr) (hb : Below wr.heap.size wr w') : Boxed w cs t w' := Below.trans h (hb.mono h.size)
end
theorem shallow_any (Q : Nat → Prop) : ∀ (h : Nat) (x : Val) (v : Value) (m : Int) (w : World), VIn w Q h x v → 0 ≤ m → m ≤ 60 → Calls Tryz.prog 39 #[v, .int .i64 m] w (SomeBool w)
 | 0, _, _, _, _, hv, _, _ => hv.elim
 | h + 1, x, v, m, w, hv, h0, h1 => by
  obtain ⟨ba, fa, la, bc, fc, lc, rfl, hL, hb, hf, hl, hB, hF, hI⟩ := hv
  unfold agg
  have IH := Lib.hid (fun x v m w => shallow_any Q h x v m w)
  have HF := Lib.hid hF; have HI := Lib.hid hI
  obtain ⟨fn, hfn⟩ : ∃ fn, fn = x.f.length := ⟨_, rfl⟩
  obtain ⟨ln, hln⟩ : ∃ ln, ln = x.l.length := ⟨_, rfl⟩
  have hfl := hL.f; have hll := hL.l
  rw [← hfn] at hfl ⊢; rw [← hln] at hll ⊢
  have HFN := Lib.hid hfn; have HLN := Lib.hid hln
  clear hF hI hB hb hL hf hl hfn hln
  obtain ⟨cs, hcs⟩ : ∃ cs, cs = #[Value.int .i64 x.kind, .int .i64 x.n, .string x.s, .slice ba x.b.length bc, .slice fa fn fc, .slice la ln lc] := ⟨_, rfl⟩
  have HC := Lib.hid hcs; clear hcs
  go_enter Tryz.func39, Tryz.ntmps39
  go_wp2
  go_loopw [5] (fun i wr => ∃ k : Nat, i = .int .i64 k ∧ k ≤ fn ∧ Hid (Boxed w cs 26 wr)) (fun i _ => fn - (intOf i).toNat)
  case atStart => exact ⟨0, rfl, Nat.zero_le _, by rw [HC.out]; exact Boxed.refl _ _ _⟩
  case round =>
   obtain ⟨k, rfl, hk, hbx⟩ := hrel
   have c4 : wr.cell? ⟨w.heap.size, 4, none⟩ = some (.slice fa fn fc) := by rw [hbx.out.cell, HC.out]; rfl
   have c5 : wr.cell? ⟨w.heap.size, 5, none⟩ = some (.slice la ln lc) := by rw [hbx.out.cell, HC.out]; rfl
   by_cases hlt : k < fn
   ·by_cases hm : m = 0
    ·subst hm
     go_wp2
     go_ret
     exact ⟨_, rfl, hbx.out.below⟩
    ·have hm' : (m == 0) = false := by simpa using hm
     obtain ⟨g, o, hfa, _, hall⟩ := HF.out.resolve_left (fun e => by have := HFN.out; rw [e] at this; simp at this; omega)
     obtain ⟨hnm, _, v', hsix, hV⟩ := hall k (by have := HFN.out; omega)
     subst hfa
     have hV := Lib.hid (VIn.keep hbx.out.below hV)
     obtain ⟨d0, d1, d2, d3, d4, d5, rfl, s0, s1, s2, s3, s4, s5⟩ := hsix.keep hbx.out.below
     clear hnm hall
     go_wp2_with fail
     refine (IH.out _ _ (m - 1) _ hV.out (by omega) (by omega)).mono ?_
     rintro e w' ⟨b, rfl, hB'⟩
     have HB := Lib.hid (hbx.out.step (cs := cs) hB')
     clear hB'
     cases b with
     | false =>
      go_wp2_with fail
      go_ret
      exact ⟨_, rfl, HB.out.below⟩
     | true =>
      go_wp2_with fail
      go_roundw
      case rel => exact ⟨k + 1, by go_num, by omega, HB⟩
      case measure => simp [intOf]; omega
   ·obtain rfl : fn = k := by omega
    clear hk
    go_wp2_with fail
    go_loopw [6] (fun i wr => ∃ k : Nat, i = .int .i64 k ∧ k ≤ ln ∧ Hid (Boxed w cs 26 wr)) (fun i _ => ln - (intOf i).toNat)
    case atStart => exact ⟨0, rfl, Nat.zero_le _, hbx⟩
    case round =>
     obtain ⟨j, rfl, hj, hbx⟩ := hrel
     have c5 : wr.cell? ⟨w.heap.size, 5, none⟩ = some (.slice la ln lc) := by rw [hbx.out.cell, HC.out]; rfl
     by_cases hlt : j < ln
     ·by_cases hm : m = 0
      ·subst hm
       go_wp2
       go_ret
       exact ⟨_, rfl, hbx.out.below⟩
      ·have hm' : (m == 0) = false := by simpa using hm
       obtain ⟨g, o, hla, _, hall⟩ := HI.out.resolve_left (fun e => by have := HLN.out; rw [e] at this; simp at this; omega)
       obtain ⟨v', hsix, hV⟩ := hall j (by have := HLN.out; omega)
       subst hla
       have hV := Lib.hid (VIn.keep hbx.out.below hV)
       obtain ⟨d0, d1, d2, d3, d4, d5, rfl, s0, s1, s2, s3, s4, s5⟩ := hsix.keep hbx.out.below
       clear hall
       go_wp2_with fail
       refine (IH.out _ _ (m - 1) _ hV.out (by omega) (by omega)).mono ?_
       rintro e w' ⟨b, rfl, hB'⟩
       have HB := Lib.hid (hbx.out.step (cs := cs) hB')
       clear hB'
       cases b with
       | false =>
        go_wp2_with fail
        go_ret
        exact ⟨_, rfl, HB.out.below⟩
       | true =>
        go_wp2_with fail
        go_roundw
        case rel => exact ⟨j + 1, by go_num, by omega, HB⟩
        case measure => simp [intOf]; omega
     ·have hjj : j = ln := by omega
      clear hj
      go_wp2_with fail
      go_ret
      exact ⟨_, rfl, hbx.out.below⟩
end Go.Proofs.YtiajjgehnmkokaaGreatDoor
end
