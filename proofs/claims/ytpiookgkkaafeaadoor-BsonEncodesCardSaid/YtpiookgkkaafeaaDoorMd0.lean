/- SixIs, PathItems, PathAccMany, PathItself, PathAItems, PathReach, PathAAll, PathADoc, PathATop, PathAll, PathSplit, PathUtf8, PathMay, PathParse, PathRefMay, PathRefParse, PathReachTop, PathAwake, PathParsesWalk, PathBackWalk, PathBackLaw, RefSmall, RefBare, RefOwnA, RefOwnB, RefOwnT, RefStep. -/
import Derived.Deep.RegionHeld3
import Derived.Laws.AppendOwn
import Derived.Lib.IndexBytes
import Derived.Lib.CutLaws
import Derived.Lib.ValidLaws
import Derived.Laws.BitsAllLaws
import Derived.Test.YtpiookgkkaafeaaDoorShelf
import Derived.Laws.DeepStrings4
import Derived.Lib.AppendStr
import Derived.Test.YtpiookgkkaafeaaDoorMg5
import Derived.Test.YtpiookgkkaafeaaDoorMg20
import Derived.Test.YtpiookgkkaafeaaDoorMg0
import Derived.Test.YtpiookgkkaafeaaDoorMg8
import Derived.Test.YtpiookgkkaafeaaDoorMg4
import Derived.Test.YtpiookgkkaafeaaDoorMg10
set_option maxRecDepth 100000
section
namespace Go.Proofs.YtpiookgkkaafeaaDoor
open Go.RowKit
open Seal
def SixIs (W : World) (n : Nat) (c0 c1 c2 c3 c4 c5 : Value) : Prop := W.cell? ⟨n, 0, none⟩ = some c0 ∧ W.cell? ⟨n, 1, none⟩ = some c1 ∧ W.cell? ⟨n, 2, none⟩ = some c2 ∧ W.cell? ⟨n, 3, none⟩ = some c3 ∧ W.cell? ⟨n, 4, none⟩ = some c4 ∧ W.cell? ⟨n, 5, none⟩ = some c5
theorem SixIs.keep {W W' : World} {n : Nat} {c0 c1 c2 c3 c4 c5 : Value} (h : SixIs W n c0 c1 c2 c3 c4 c5) (hb : Below W.heap.size W W') : SixIs W' n c0 c1 c2 c3 c4 c5 := by
  obtain ⟨h0, h1, h2, h3, h4, h5⟩ := h
  exact ⟨cell_keep hb h0, cell_keep hb h1, cell_keep hb h2, cell_keep hb h3, cell_keep hb h4, cell_keep hb h5⟩
theorem SixIs.new (w : World) (c0 c1 c2 c3 c4 c5 : Value) (t : TypeId) : SixIs (w.alloc (.cells #[c0, c1, c2, c3, c4, c5] t)) w.heap.size c0 c1 c2 c3 c4 c5 := by
  have e := heap_alloc_new w (.cells #[c0, c1, c2, c3, c4, c5] t)
  exact ⟨(cell_of_row _ _ 0 _ _ _ e).trans rfl, (cell_of_row _ _ 1 _ _ _ e).trans rfl, (cell_of_row _ _ 2 _ _ _ e).trans rfl, (cell_of_row _ _ 3 _ _ _ e).trans rfl, (cell_of_row _ _ 4 _ _ _ e).trans rfl, (cell_of_row _ _ 5 _ _ _ e).trans rfl⟩
end Go.Proofs.YtpiookgkkaafeaaDoor
end
section
namespace Go.Proofs.YtpiookgkkaafeaaDoor
open Go.RowKit
open Seal
open Bson (Val)
theorem VIn.kind {w : World} {Q : Nat → Prop} {h : Nat} {x : Val} {k n : Int} {s : ByteArray} {v3 v4 v5 : Value} (hv : VIn w Q h x (.agg #[.int .i64 k, .int .i64 n, .string s, v3, v4, v5])) : k = x.kind := by
  cases h with
  | zero => exact hv.elim
  | succ h =>
    obtain ⟨ba, fa, la, bc, fc, lc, e, _⟩ := hv
    unfold agg at e
    injection e with e; injection e with e; injection e with e _; injection e with _ e
end Go.Proofs.YtpiookgkkaafeaaDoor
end
section
namespace Go.Proofs.YtpiookgkkaafeaaDoor
open Go.RowKit
open Seal
open Bson (Val)
/-- Six cells of a list of cells, as a value. -/
def CellsAt (w : World) (Q : Nat → Prop) (h : Nat) (l : List Val) (news : List Value) : Prop := ∀ i (hi : i < l.length), ∃ c0 c1 c2 c3 c4 c5, news[i * 6]? = some c0 ∧ news[i * 6 + 1]? = some c1 ∧ news[i * 6 + 2]? = some c2 ∧ news[i * 6 + 3]? = some c3 ∧ news[i * 6 + 4]? = some c4 ∧ news[i * 6 + 5]? = some c5 ∧ VIn w Q h l[i] (.agg #[c0, c1, c2, c3, c4, c5])
theorem Acc.append {w w' : World} {base : Nat} {v v' : Value} {QA : Nat → Prop} {h : Nat} {ys zs : List Val} {xs news : List Value} (ha : Acc w base v QA h ys xs) (hw : Wrote w w' v v') (hown : w'.ownsRow base 27 6 v' (ys.length + zs.length) (xs ++ news))
    (hv : CellsAt w (fun g => QA g ∧ v.ownBlock ≠ some g) h zs news) (_hl : news.length = zs.length * 6) : Acc w' base v' QA h (ys ++ zs) (xs ++ news) := by
  have hxl : xs.length = ys.length * 6 := ha.own.1
  refine ⟨by rw [List.length_append]; exact hown, fun i hi => ?_⟩
  rw [List.length_append] at hi
  rcases Nat.lt_or_ge i ys.length with hlt | hge
  · obtain ⟨d0, d1, d2, d3, d4, d5, h0, h1, h2, h3, h4, h5, hd⟩ := ha.at' i hlt
    have e : ∀ j, j < 6 → (xs ++ news)[i * 6 + j]? = xs[i * 6 + j]? := fun j hj => List.getElem?_append_left (by omega)
    refine ⟨d0, d1, d2, d3, d4, d5, (e 0 (by omega)).trans h0, (e 1 (by omega)).trans h1, (e 2 (by omega)).trans h2, (e 3 (by omega)).trans h3, (e 4 (by omega)).trans h4, (e 5 (by omega)).trans h5, ?_⟩
    rw [List.getElem_append_left hlt]
    exact hw.vin hd
  · obtain ⟨j, rfl⟩ : ∃ j, i = ys.length + j := ⟨i - ys.length, by omega⟩
    obtain ⟨d0, d1, d2, d3, d4, d5, h0, h1, h2, h3, h4, h5, hd⟩ := hv j (by omega)
    have e : ∀ r, (xs ++ news)[(ys.length + j) * 6 + r]? = news[j * 6 + r]? := fun r => by
      rw [List.getElem?_append_right (by omega)]; congr 1; omega
    refine ⟨d0, d1, d2, d3, d4, d5, (e 0).trans h0, (e 1).trans h1, (e 2).trans h2, (e 3).trans h3, (e 4).trans h4, (e 5).trans h5, ?_⟩
    rw [List.getElem_append_right (by omega)]
    simp only [Nat.add_sub_cancel_left]
    exact hw.vin hd
section
variable {P : Program}
end
end Go.Proofs.YtpiookgkkaafeaaDoor
end
section
namespace Go.Proofs.YtpiookgkkaafeaaDoor
open Go.RowKit
open Seal
open Bson (Val)
end Go.Proofs.YtpiookgkkaafeaaDoor
end
section
namespace Go.Proofs.YtpiookgkkaafeaaDoor
open Go.RowKit
open Seal
open Bson (Val)
/-- A row of texts in memory, beside the row v of one's own. -/
def StrsBy (w : World) (v : Value) (a : Option Addr) (p : List ByteArray) : Prop := p = [] ∨ ∃ g o, a = some ⟨g, o, none⟩ ∧ v.ownBlock ≠ some g ∧ ∀ i (hi : i < p.length), w.cell? ⟨g, o + i, none⟩ = some (.string p[i])
theorem StrsBy.keep {w w' : World} {v : Value} {a : Option Addr} {p : List ByteArray} (h : StrsBy w v a p) (hb : Below w.heap.size w w') : StrsBy w' v a p := by
  rcases h with h | ⟨g, o, e, hg, h⟩
  · exact .inl h
  · exact .inr ⟨g, o, e, hg, fun i hi => cell_keep hb (h i hi)⟩
theorem owns_shape {w : World} {base : Nat} {e : TypeId} {size : Nat} {v : Value} {n : Nat} {xs : List Value} (h : w.ownsRow base e size v n xs) : ∃ a c, v = .slice a n c := by
  obtain ⟨_, ⟨rfl, rfl⟩ | ⟨g, cap, cur, rfl, _⟩⟩ := h
  · exact ⟨none, 0, rfl⟩
  · exact ⟨_, cap, rfl⟩
end Go.Proofs.YtpiookgkkaafeaaDoor
end
section
namespace Go.Proofs.YtpiookgkkaafeaaDoor
open Go.RowKit
open Seal
open Bson (Val)
end Go.Proofs.YtpiookgkkaafeaaDoor
end
section
namespace Go.Proofs.YtpiookgkkaafeaaDoor
open Go.RowKit
open Seal
open Bson (Val)
end Go.Proofs.YtpiookgkkaafeaaDoor
end
section
namespace Go.Proofs.YtpiookgkkaafeaaDoor
open Go.RowKit
open Seal
open Bson (Val)
end Go.Proofs.YtpiookgkkaafeaaDoor
end
section
namespace Go.Proofs.YtpiookgkkaafeaaDoor
open Go.RowKit
open Seal
open Bson (Val)
end Go.Proofs.YtpiookgkkaafeaaDoor
end
section
namespace Go.Proofs.YtpiookgkkaafeaaDoor
open Go.RowKit
open Seal
open Bson (Val)
/-- A row of values, each of which lies in other blocks than the row. -/
def Held (w : World) (g H : Nat) (Q : Nat → Prop) (zs : List Val) : Prop := ∀ i (hi : i < zs.length), ∃ v, SixAt w g (i * 6) v ∧ VIn w (fun b => Q b ∧ b ≠ g) H zs[i] v
theorem Held.keep {w w' : World} {g H : Nat} {Q : Nat → Prop} {zs : List Val} (h : Held w g H Q zs) (hb : Below w.heap.size w w') : Held w' g H Q zs := fun i hi => by
  obtain ⟨v, h1, h2⟩ := h i hi
  exact ⟨v, h1.keep hb, h2.keep hb⟩
theorem Held.put {w : World} {g H len : Nat} {Q : Nat → Prop} {zs : List Val} {t : TypeId} (h : Held w g H Q zs) (hr : Row6 w g t len) (hl : zs.length * 6 ≤ len) {k : Nat} (hk : k < zs.length) {c0 c1 c2 c3 c4 c5 : Value} (hn : VIn w (fun b => Q b ∧ b ≠ g) H zs[k] (.agg #[c0, c1, c2, c3, c4, c5])) :
    Held (puts w g (k * 6) [c0, c1, c2, c3, c4, c5]) g H Q zs := by
  intro i hi
  have hkp : Kept (fun b => Q b ∧ b ≠ g) w (puts w g (k * 6) [c0, c1, c2, c3, c4, c5]) := puts_kept _ (fun e => e.2 rfl) _ _
  have hfit : k * 6 + [c0, c1, c2, c3, c4, c5].length ≤ len := by simp; omega
  by_cases hik : i = k
  · subst hik
    exact ⟨_, SixAt.of_puts hr (i * 6) 0 _ hfit c0 c1 c2 c3 c4 c5 rfl rfl rfl rfl rfl rfl, hn.kept hkp (fun _ hg => hg)⟩
  · obtain ⟨v, h1, h2⟩ := h i hi
    refine ⟨v, ?_, h2.kept hkp (fun _ hg => hg)⟩
    obtain ⟨d0, d1, d2, d3, d4, d5, e, h0, h1, h2, h3, h4, h5⟩ := h1
    obtain ⟨_, h6, _⟩ := hr.puts (k * 6) [c0, c1, c2, c3, c4, c5] hfit
    have q : ∀ j, j < 6 → (i * 6 + j < k * 6 ∨ k * 6 + [c0, c1, c2, c3, c4, c5].length ≤ i * 6 + j) := fun j hj => by simp; omega
    exact ⟨d0, d1, d2, d3, d4, d5, e, (h6 (i * 6) (q 0 (by omega))).trans h0, (h6 _ (q 1 (by omega))).trans h1, (h6 _ (q 2 (by omega))).trans h2, (h6 _ (q 3 (by omega))).trans h3, (h6 _ (q 4 (by omega))).trans h4, (h6 _ (q 5 (by omega))).trans h5⟩
end Go.Proofs.YtpiookgkkaafeaaDoor
end
section
namespace Go.Proofs.YtpiookgkkaafeaaDoor
open Go
namespace Path
/-- What lies between the points. -/
def split : List UInt8 → List (List UInt8)
  | [] => [[]]
  | c :: r => if c = 46 then [] :: split r else (c :: (split r).headD []) :: (split r).tail
theorem split_free : ∀ (a : List UInt8), 46 ∉ a → split a = [a]
  | [], _ => rfl
  | c :: r, h => by
    have hc : c ≠ 46 := fun e => h (by simp [e])
    have ih := split_free r (fun e => h (by simp [e]))
    simp [split, hc, ih]
theorem split_cut : ∀ (a b : List UInt8), 46 ∉ a → split (a ++ 46 :: b) = a :: split b
  | [], b, _ => by simp [split]
  | c :: r, b, h => by
    have hc : c ≠ 46 := fun e => h (by simp [e])
    have ih := split_cut r b (fun e => h (by simp [e]))
    simp [split, hc, ih]
/-- May a path have such a name? -/
def may (x : List UInt8) : Bool := (!x.isEmpty) && (x.headD 0 != 36) && decide (x.length ≤ 120) && decide (0 ∉ x) && Lib.validD x
/-- The names of a text that is a path. -/
def parse (s : List UInt8) : Option (List (List UInt8)) := if (split s).all may = true ∧ (split s).length ≤ 16 then some (split s) else none
end Path
end Go.Proofs.YtpiookgkkaafeaaDoor
end
section
namespace Go.Proofs.YtpiookgkkaafeaaDoor
open Go.RowKit
open Seal
open Bson (Val)
namespace Path
/-- The byte at a place, 0 beyond the end. -/
def byte (s : ByteArray) (k : Nat) : Nat := (s.data.toList.getD k 0).toNat
theorem byte_lt (s : ByteArray) (k : Nat) : byte s k < 256 := (s.data.toList.getD k 0).toNat_lt
theorem len_list (s : ByteArray) : s.data.toList.length = s.size := Array.length_toList
def Cls (c n lo hi : Nat) : Prop := Lib.firstT c % 8 = n + 1 ∧ Lib.accLo (Lib.firstT c / 16) = lo ∧ Lib.accHi (Lib.firstT c / 16) = hi ∧ (n = 1 ∨ n = 2 ∨ n = 3)
theorem getD_drop (l : List UInt8) (k j : Nat) : (l.drop k).getD j 0 = l.getD (k + j) 0 := by
  rw [List.getD_eq_getElem?_getD, List.getD_eq_getElem?_getD, List.getElem?_drop]
theorem low_step (s : ByteArray) (k : Nat) (hk : k < s.size) (h : byte s k < 128) : Lib.validD (s.data.toList.drop k) = Lib.validD (s.data.toList.drop (k + 1)) := by
  have hl := len_list s
  have e := List.drop_eq_getElem_cons (l := s.data.toList) (i := k) (by omega)
  rw [e]
  refine Lib.validD_cons _ _ ?_
  have : byte s k = (s.data.toList[k]'(by omega)).toNat := by unfold byte; rw [List.getD_eq_getElem?_getD, List.getElem?_eq_getElem (by omega)]; rfl
  omega
theorem lead_eq (s : ByteArray) (k : Nat) (hk : k < s.size) (h : 128 ≤ byte s k) :
    Lib.validD (s.data.toList.drop k) = match Lib.checkN (s.size - k) (byte s (k + 1)) (byte s (k + 2)) (byte s (k + 3)) (Lib.firstT (byte s k) % 8) (Lib.accLo (Lib.firstT (byte s k) / 16)) (Lib.accHi (Lib.firstT (byte s k) / 16)) with
      | none => false
      | some m => Lib.validD (s.data.toList.drop (k + m)) := by
  have hl := len_list s
  have hne : s.data.toList.drop k ≠ [] := fun e => by have := congrArg List.length e; rw [List.length_drop] at this; simp at this; omega
  have h0 := Lib.validD_lead (s.data.toList.drop k) hne (by rw [getD_drop]; exact h)
  rw [List.length_drop, hl, getD_drop, getD_drop, getD_drop, getD_drop, Nat.add_zero] at h0
  rw [h0]
  simp only [List.drop_drop]
  rfl
theorem bad_lead (s : ByteArray) (k : Nat) (hk : k < s.size) (h : 128 ≤ byte s k) (hb : byte s k < 194 ∨ 244 < byte s k) : Lib.validD (s.data.toList.drop k) = false := by
  rw [lead_eq s k hk h]
  have e : Lib.firstT (byte s k) = 241 := by unfold Lib.firstT; repeat' split
                                             all_goals omega
  rw [e]; rfl
theorem short_lead (s : ByteArray) (k n lo hi : Nat) (hk : k < s.size) (h : 128 ≤ byte s k) (hc : Cls (byte s k) n lo hi) (hb : s.size - k < n + 1) : Lib.validD (s.data.toList.drop k) = false := by
  obtain ⟨h1, h2, h3, h4⟩ := hc
  rw [lead_eq s k hk h, h1, h2, h3]
  rcases h4 with rfl | rfl | rfl <;> simp [Lib.checkN, hb]
theorem one_lead (s : ByteArray) (k n lo hi : Nat) (hk : k < s.size) (h : 128 ≤ byte s k) (hc : Cls (byte s k) n lo hi) (hb : byte s (k + 1) < lo ∨ hi < byte s (k + 1)) : Lib.validD (s.data.toList.drop k) = false := by
  obtain ⟨h1, h2, h3, h4⟩ := hc
  rw [lead_eq s k hk h, h1, h2, h3]
  rcases h4 with rfl | rfl | rfl <;> rcases hb with hb | hb <;> simp [Lib.checkN, hb]
theorem more_lead (s : ByteArray) (k n lo hi j : Nat) (hk : k < s.size) (h : 128 ≤ byte s k) (hc : Cls (byte s k) n lo hi) (hj : 2 ≤ j) (hjn : j ≤ n) (hb : byte s (k + j) < 128 ∨ 191 < byte s (k + j)) : Lib.validD (s.data.toList.drop k) = false := by
  obtain ⟨h1, h2, h3, h4⟩ := hc
  rw [lead_eq s k hk h, h1, h2, h3]
  rcases h4 with rfl | rfl | rfl
  · omega
  · obtain rfl : j = 2 := by omega
    rcases hb with hb | hb <;> simp [Lib.checkN, hb]
  · obtain rfl | rfl : j = 2 ∨ j = 3 := by omega
    · rcases hb with hb | hb <;> simp [Lib.checkN, hb]
    · rcases hb with hb | hb <;> simp [Lib.checkN, hb]
theorem good_lead (s : ByteArray) (k n lo hi : Nat) (hk : k < s.size) (h : 128 ≤ byte s k) (hc : Cls (byte s k) n lo hi) (hb : ¬ s.size - k < n + 1) (hb1 : ¬ (byte s (k + 1) < lo ∨ hi < byte s (k + 1))) (hm : ∀ j, 2 ≤ j → j ≤ n → 128 ≤ byte s (k + j) ∧ byte s (k + j) ≤ 191) :
    Lib.validD (s.data.toList.drop k) = Lib.validD (s.data.toList.drop (k + n + 1)) := by
  obtain ⟨h1, h2, h3, h4⟩ := hc
  rw [lead_eq s k hk h, h1, h2, h3]
  have e : Lib.checkN (s.size - k) (byte s (k + 1)) (byte s (k + 2)) (byte s (k + 3)) (n + 1) lo hi = some (n + 1) := by
    rcases h4 with rfl | rfl | rfl
    · unfold Lib.checkN; rw [if_pos rfl, if_neg (by omega)]
    · have := hm 2 (by omega) (by omega)
      unfold Lib.checkN; rw [if_neg (by omega), if_pos rfl, if_neg (by omega)]
    · have := hm 2 (by omega) (by omega)
      have := hm 3 (by omega) (by omega)
      unfold Lib.checkN; rw [if_neg (by omega), if_neg (by omega), if_pos rfl, if_neg (by omega)]
  rw [e]; rfl
theorem cls_a : ∀ c : Fin 256, 194 ≤ c.val → c.val ≤ 223 → Lib.firstT c.val % 8 = 1 + 1 ∧ Lib.accLo (Lib.firstT c.val / 16) = 128 ∧ Lib.accHi (Lib.firstT c.val / 16) = 191 := by decide +kernel
theorem cls_b : ∀ c : Fin 256, 225 ≤ c.val → c.val ≤ 239 → c.val ≠ 237 → Lib.firstT c.val % 8 = 2 + 1 ∧ Lib.accLo (Lib.firstT c.val / 16) = 128 ∧ Lib.accHi (Lib.firstT c.val / 16) = 191 := by decide +kernel
theorem cls_c : ∀ c : Fin 256, 241 ≤ c.val → c.val ≤ 243 → Lib.firstT c.val % 8 = 3 + 1 ∧ Lib.accLo (Lib.firstT c.val / 16) = 128 ∧ Lib.accHi (Lib.firstT c.val / 16) = 191 := by decide +kernel
theorem cls_of (c : Nat) (h1 : 194 ≤ c) (h2 : c ≤ 244) :
    (194 ≤ c ∧ c ≤ 223 ∧ Cls c 1 128 191) ∨ (c = 224 ∧ Cls c 2 160 191) ∨ (225 ≤ c ∧ c ≤ 239 ∧ c ≠ 237 ∧ Cls c 2 128 191) ∨ (c = 237 ∧ Cls c 2 128 159) ∨ (c = 240 ∧ Cls c 3 144 191) ∨ (241 ≤ c ∧ c ≤ 243 ∧ Cls c 3 128 191) ∨ (c = 244 ∧ Cls c 3 128 143) := by
  by_cases a1 : c ≤ 223
  · obtain ⟨e1, e2, e3⟩ := cls_a ⟨c, by omega⟩ h1 a1
    exact .inl ⟨h1, a1, e1, e2, e3, .inl rfl⟩
  by_cases a2 : c = 224
  · subst a2; exact .inr (.inl ⟨rfl, by decide, by decide, by decide, .inr (.inl rfl)⟩)
  by_cases a3 : c = 237
  · subst a3; exact .inr (.inr (.inr (.inl ⟨rfl, by decide, by decide, by decide, .inr (.inl rfl)⟩)))
  by_cases a4 : c ≤ 239
  · obtain ⟨e1, e2, e3⟩ := cls_b ⟨c, by omega⟩ (by show 225 ≤ c; omega) a4 a3
    exact .inr (.inr (.inl ⟨by omega, a4, a3, e1, e2, e3, .inr (.inl rfl)⟩))
  by_cases a5 : c = 240
  · subst a5; exact .inr (.inr (.inr (.inr (.inl ⟨rfl, by decide, by decide, by decide, .inr (.inr rfl)⟩))))
  by_cases a6 : c = 244
  · subst a6; exact .inr (.inr (.inr (.inr (.inr (.inr ⟨rfl, by decide, by decide, by decide, .inr (.inr rfl)⟩)))))
  · obtain ⟨e1, e2, e3⟩ := cls_c ⟨c, by omega⟩ (by show 241 ≤ c; omega) (by show c ≤ 243; omega)
    exact .inr (.inr (.inr (.inr (.inr (.inl ⟨by omega, by omega, e1, e2, e3, .inr (.inr rfl)⟩)))))
theorem and_lead : ∀ c : Fin 256, (c.val &&& 192 = 128) ↔ (128 ≤ c.val ∧ c.val ≤ 191) := by decide +kernel
/-- A byte of a text, as the walk reads it. -/
theorem run_byte (s : ByteArray) (k : Nat) (hk : k < s.size) (W : World) : (Instr.index 9 (.string s) (.int .i64 (k : Int))).run Tryd.prog W = .ok (.int .u8 ((byte s k : Nat) : Int)) W := by
  rw [run_index_string W 9 s .i64 (k : Int) (by kernel_rfl), dif_pos ⟨by omega, by omega⟩]
  have : (s[(k : Int).toNat]'(by omega)).toNat = byte s k := by
    unfold byte
    rw [List.getD_eq_getElem?_getD, List.getElem?_eq_getElem (by rw [len_list]; omega)]
    rfl
  rw [this]
end Path
open Path
set_option maxRecDepth 100000 in
set_option maxHeartbeats 2000000 in
theorem utf8ref_any (s : ByteArray) (w : World) (hs : s.size ≤ 140737488355328) :
    Calls Tryd.prog 46 #[.string s] w fun e w' => e = .returned (.bool (Lib.validD s.data.toList)) ∧ Below w.heap.size w w' := by
  obtain ⟨N, hN⟩ : ∃ N, N = s.size := ⟨_, rfl⟩
  have HRB := Lib.hid (run_byte s)
  go_enter Tryd.func46, Tryd.ntmps46
  go_wp2_with fail
  go_loopw [3] (fun i wr => ∃ k : Nat, i = .int .i64 k ∧ k ≤ s.size ∧ Hid (Lib.validD (s.data.toList.drop k) = Lib.validD s.data.toList) ∧ Hid (Below w.heap.size w wr)) (fun i _ => s.size - (intOf i).toNat)
  case atStart => exact ⟨0, rfl, Nat.zero_le _, rfl, Below.refl _ _⟩
  case round =>
    obtain ⟨k, rfl, hk, HE, HB⟩ := hrel
    by_cases hlt : k < s.size
    · have i0 := HRB.out k hlt
      obtain ⟨c, hc⟩ : ∃ c, c = byte s k := ⟨_, rfl⟩
      rw [← hc] at i0
      have hc256 : c < 256 := by rw [hc]; exact byte_lt s k
      have HC := Lib.hid hc
      clear hc
      by_cases h128 : c < 128
      · have HE2 : Hid (Lib.validD (s.data.toList.drop (k + 1)) = Lib.validD s.data.toList) := (low_step s k hlt (by rw [← HC.out]; exact h128)).symm.trans HE.out
        go_wp2_with fail
        go_roundw
        case rel => exact ⟨k + 1, by go_num, by omega, HE2, HB⟩
        case measure => simp [intOf]; omega
      · by_cases hbad : c < 194 ∨ 244 < c
        · have hres : Lib.validD s.data.toList = false := HE.out.symm.trans (bad_lead s k hlt (by rw [← HC.out]; omega) (by rw [← HC.out]; exact hbad))
          have HRES := Lib.hid hres
          clear hres
          rcases hbad with hbad | hbad
          · go_wp2_with fail
            go_ret
            exact ⟨by rw [HRES.out]; rfl, HB.out⟩
          · go_wp2_with fail
            go_ret
            exact ⟨by rw [HRES.out]; rfl, HB.out⟩
        · have hcls := cls_of c (by omega) (by omega)
          clear hbad
          rcases hcls with ⟨ha, hb, hcl⟩ | ⟨ha, hcl⟩ | ⟨ha, hb, hne, hcl⟩ | ⟨ha, hcl⟩ | ⟨ha, hcl⟩ | ⟨ha, hb, hcl⟩ | ⟨ha, hcl⟩
          · have HCL := Lib.hid hcl
            clear hcl
            have q1 : IntKind.i64.wrap ((s.size : Int) - (k : Int)) = (s.size : Int) - (k : Int) := IntWalk.i64_in _ (by omega)
            have q2 : IntKind.i64.wrap ((s.size : Int) - (k : Int) - 1) = (s.size : Int) - (k : Int) - 1 := IntWalk.i64_in _ (by omega)
            have q3 : IntKind.i64.wrap ((k : Int) + 1) = (k : Int) + 1 := IntWalk.i64_in _ (by omega)
            by_cases hsh : s.size - k < 2
            · have q4 : decide ((s.size : Int) - (k : Int) - 1 < 1) = true := decide_eq_true (by omega)
              have q5 : (s.size : Int) - (k : Int) - 1 < 1 := by omega
              have HRES : Hid (Lib.validD s.data.toList = false) := HE.out.symm.trans (short_lead s k 1 128 191 hlt (by rw [← HC.out]; omega) (by rw [← HC.out]; exact HCL.out) hsh)
              go_wp2_with fail
              go_ret
              exact ⟨by rw [HRES.out]; rfl, HB.out⟩
            · have q4 : decide ((s.size : Int) - (k : Int) - 1 < 1) = false := decide_eq_false (by omega)
              have q5 : ¬ (s.size : Int) - (k : Int) - 1 < 1 := by omega
              have i1 : ∀ W, (Instr.index 9 (.string s) (.int .i64 ((k : Int) + 1))).run Tryd.prog W = .ok (.int .u8 ((byte s (k + 1) : Nat) : Int)) W := HRB.out (k + 1) (by omega)
              obtain ⟨d, hd⟩ : ∃ d, d = byte s (k + 1) := ⟨_, rfl⟩
              have hd256 : d < 256 := by rw [hd]; exact byte_lt s _
              rw [← hd] at i1
              have HD := Lib.hid hd
              clear hd
              by_cases hlo : d < 128
              · have d1 : decide ((d : Int) < 128) = true := decide_eq_true (by omega)
                have d2 : decide (d < 128) = true := decide_eq_true hlo
                have HRES : Hid (Lib.validD s.data.toList = false) := HE.out.symm.trans (one_lead s k 1 128 191 hlt (by rw [← HC.out]; omega) (by rw [← HC.out]; exact HCL.out) (.inl (by rw [← HD.out]; exact hlo)))
                go_wp2_with fail
                go_ret
                exact ⟨by rw [HRES.out]; rfl, HB.out⟩
              · have d1 : decide ((d : Int) < 128) = false := decide_eq_false (by omega)
                have d2 : decide (d < 128) = false := decide_eq_false hlo
                by_cases hhi : 191 < d
                · have d3 : decide (191 < (d : Int)) = true := decide_eq_true (by omega)
                  have d4 : decide (191 < d) = true := decide_eq_true hhi
                  have HRES : Hid (Lib.validD s.data.toList = false) := HE.out.symm.trans (one_lead s k 1 128 191 hlt (by rw [← HC.out]; omega) (by rw [← HC.out]; exact HCL.out) (.inr (by rw [← HD.out]; exact hhi)))
                  go_wp2_with fail
                  go_ret
                  exact ⟨by rw [HRES.out]; rfl, HB.out⟩
                · have d3 : decide (191 < (d : Int)) = false := decide_eq_false (by omega)
                  have d4 : decide (191 < d) = false := decide_eq_false hhi
                  go_wp2_with fail
                  go_loopw [8] (fun i wr => ∃ j : Nat, i = .int .i64 j ∧ 2 ≤ j ∧ j ≤ 2 ∧ Hid (∀ x, 2 ≤ x → x < j → 128 ≤ byte s (k + x) ∧ byte s (k + x) ≤ 191) ∧ Hid (Below w.heap.size w wr)) (fun i _ => 5 - (intOf i).toNat)
                  case atStart => exact ⟨2, rfl, Nat.le_refl _, by omega, fun x h1 h2 => by omega, HB⟩
                  case round =>
                    obtain ⟨j, rfl, hj2, hjn, HJ, HB3⟩ := hrel
                    by_cases hj : j ≤ 1
                    · omega
                    · have HE2 : Hid (Lib.validD (s.data.toList.drop (k + 1 + 1)) = Lib.validD s.data.toList) := (good_lead s k 1 128 191 hlt (by rw [← HC.out]; omega) (by rw [← HC.out]; exact HCL.out) hsh (by rw [← HD.out]; omega) (fun y h1 h2 => HJ.out y h1 (by omega))).symm.trans HE.out
                      have q7 : IntKind.i64.wrap ((k : Int) + 1) = (k : Int) + 1 := IntWalk.i64_in _ (by omega)
                      have q8 : IntKind.i64.wrap ((k : Int) + 1 + 1) = (k : Int) + 1 + 1 := IntWalk.i64_in _ (by omega)
                      go_wp2_with fail
                      go_roundw
                      case rel => exact ⟨k + 1 + 1, by go_num, by omega, HE2, HB3⟩
                      case measure => simp [intOf]; omega
          · have HCL := Lib.hid hcl
            clear hcl
            have q1 : IntKind.i64.wrap ((s.size : Int) - (k : Int)) = (s.size : Int) - (k : Int) := IntWalk.i64_in _ (by omega)
            have q2 : IntKind.i64.wrap ((s.size : Int) - (k : Int) - 1) = (s.size : Int) - (k : Int) - 1 := IntWalk.i64_in _ (by omega)
            have q3 : IntKind.i64.wrap ((k : Int) + 1) = (k : Int) + 1 := IntWalk.i64_in _ (by omega)
            by_cases hsh : s.size - k < 3
            · have q4 : decide ((s.size : Int) - (k : Int) - 1 < 2) = true := decide_eq_true (by omega)
              have q5 : (s.size : Int) - (k : Int) - 1 < 2 := by omega
              have HRES : Hid (Lib.validD s.data.toList = false) := HE.out.symm.trans (short_lead s k 2 160 191 hlt (by rw [← HC.out]; omega) (by rw [← HC.out]; exact HCL.out) hsh)
              go_wp2_with fail
              go_ret
              exact ⟨by rw [HRES.out]; rfl, HB.out⟩
            · have q4 : decide ((s.size : Int) - (k : Int) - 1 < 2) = false := decide_eq_false (by omega)
              have q5 : ¬ (s.size : Int) - (k : Int) - 1 < 2 := by omega
              have i1 : ∀ W, (Instr.index 9 (.string s) (.int .i64 ((k : Int) + 1))).run Tryd.prog W = .ok (.int .u8 ((byte s (k + 1) : Nat) : Int)) W := HRB.out (k + 1) (by omega)
              obtain ⟨d, hd⟩ : ∃ d, d = byte s (k + 1) := ⟨_, rfl⟩
              have hd256 : d < 256 := by rw [hd]; exact byte_lt s _
              rw [← hd] at i1
              have HD := Lib.hid hd
              clear hd
              by_cases hlo : d < 160
              · have d1 : decide ((d : Int) < 160) = true := decide_eq_true (by omega)
                have d2 : decide (d < 160) = true := decide_eq_true hlo
                have HRES : Hid (Lib.validD s.data.toList = false) := HE.out.symm.trans (one_lead s k 2 160 191 hlt (by rw [← HC.out]; omega) (by rw [← HC.out]; exact HCL.out) (.inl (by rw [← HD.out]; exact hlo)))
                go_wp2_with fail
                go_ret
                exact ⟨by rw [HRES.out]; rfl, HB.out⟩
              · have d1 : decide ((d : Int) < 160) = false := decide_eq_false (by omega)
                have d2 : decide (d < 160) = false := decide_eq_false hlo
                by_cases hhi : 191 < d
                · have d3 : decide (191 < (d : Int)) = true := decide_eq_true (by omega)
                  have d4 : decide (191 < d) = true := decide_eq_true hhi
                  have HRES : Hid (Lib.validD s.data.toList = false) := HE.out.symm.trans (one_lead s k 2 160 191 hlt (by rw [← HC.out]; omega) (by rw [← HC.out]; exact HCL.out) (.inr (by rw [← HD.out]; exact hhi)))
                  go_wp2_with fail
                  go_ret
                  exact ⟨by rw [HRES.out]; rfl, HB.out⟩
                · have d3 : decide (191 < (d : Int)) = false := decide_eq_false (by omega)
                  have d4 : decide (191 < d) = false := decide_eq_false hhi
                  go_wp2_with fail
                  go_loopw [8] (fun i wr => ∃ j : Nat, i = .int .i64 j ∧ 2 ≤ j ∧ j ≤ 3 ∧ Hid (∀ x, 2 ≤ x → x < j → 128 ≤ byte s (k + x) ∧ byte s (k + x) ≤ 191) ∧ Hid (Below w.heap.size w wr)) (fun i _ => 5 - (intOf i).toNat)
                  case atStart => exact ⟨2, rfl, Nat.le_refl _, by omega, fun x h1 h2 => by omega, HB⟩
                  case round =>
                    obtain ⟨j, rfl, hj2, hjn, HJ, HB3⟩ := hrel
                    by_cases hj : j ≤ 2
                    · have i2 : ∀ W, (Instr.index 9 (.string s) (.int .i64 ((k : Int) + (j : Int)))).run Tryd.prog W = .ok (.int .u8 ((byte s (k + j) : Nat) : Int)) W := HRB.out (k + j) (by omega)
                      have q6 : IntKind.i64.wrap ((k : Int) + (j : Int)) = (k : Int) + (j : Int) := IntWalk.i64_in _ (by omega)
                      obtain ⟨x, hx⟩ : ∃ x, x = byte s (k + j) := ⟨_, rfl⟩
                      have hx256 : x < 256 := by rw [hx]; exact byte_lt s _
                      rw [← hx] at i2
                      have hand := and_lead ⟨x, hx256⟩
                      have hbit : bits .and .u8 (x : Int) 192 = ((x &&& 192 : Nat) : Int) := u8_and_nat x 192 hx256 (by decide)
                      have HX := Lib.hid hx
                      clear hx
                      by_cases hok : 128 ≤ x ∧ x ≤ 191
                      · have hand2 : x &&& 192 = 128 := hand.2 hok
                        have HJ2 : Hid (∀ y, 2 ≤ y → y < j + 1 → 128 ≤ byte s (k + y) ∧ byte s (k + y) ≤ 191) := by
                          intro y h1 h2
                          rcases Nat.lt_or_ge y j with h3 | h3
                          · exact HJ.out y h1 h3
                          · obtain rfl : y = j := by omega
                            rw [← HX.out]; exact hok
                        have hb6 : (bits .and .u8 (x : Int) 192 != 128) = false := by rw [hbit, hand2]; rfl
                        clear hand hbit hand2 hok
                        go_wp2_with fail
                        go_roundw
                        case rel => exact ⟨j + 1, by go_num, by omega, by omega, HJ2, HB3⟩
                        case measure => simp [intOf]; omega
                      · have hand2 : ¬ x &&& 192 = 128 := fun e => hok (hand.1 e)
                        have hb6 : (bits .and .u8 (x : Int) 192 != 128) = true := by rw [hbit]; simp; omega
                        have HRES : Hid (Lib.validD s.data.toList = false) := HE.out.symm.trans (more_lead s k 2 160 191 j hlt (by rw [← HC.out]; omega) (by rw [← HC.out]; exact HCL.out) hj2 hj (by rw [← HX.out]; omega))
                        clear hand hbit hand2 hok
                        go_wp2_with fail
                        go_ret
                        exact ⟨by rw [HRES.out]; rfl, HB3.out⟩
                    · have HE2 : Hid (Lib.validD (s.data.toList.drop (k + 2 + 1)) = Lib.validD s.data.toList) := (good_lead s k 2 160 191 hlt (by rw [← HC.out]; omega) (by rw [← HC.out]; exact HCL.out) hsh (by rw [← HD.out]; omega) (fun y h1 h2 => HJ.out y h1 (by omega))).symm.trans HE.out
                      have q7 : IntKind.i64.wrap ((k : Int) + 2) = (k : Int) + 2 := IntWalk.i64_in _ (by omega)
                      have q8 : IntKind.i64.wrap ((k : Int) + 2 + 1) = (k : Int) + 2 + 1 := IntWalk.i64_in _ (by omega)
                      go_wp2_with fail
                      go_roundw
                      case rel => exact ⟨k + 2 + 1, by go_num, by omega, HE2, HB3⟩
                      case measure => simp [intOf]; omega
          · rcases Nat.lt_or_gt_of_ne hne with hne | hne
            · have HCL := Lib.hid hcl
              clear hcl
              have q1 : IntKind.i64.wrap ((s.size : Int) - (k : Int)) = (s.size : Int) - (k : Int) := IntWalk.i64_in _ (by omega)
              have q2 : IntKind.i64.wrap ((s.size : Int) - (k : Int) - 1) = (s.size : Int) - (k : Int) - 1 := IntWalk.i64_in _ (by omega)
              have q3 : IntKind.i64.wrap ((k : Int) + 1) = (k : Int) + 1 := IntWalk.i64_in _ (by omega)
              by_cases hsh : s.size - k < 3
              · have q4 : decide ((s.size : Int) - (k : Int) - 1 < 2) = true := decide_eq_true (by omega)
                have q5 : (s.size : Int) - (k : Int) - 1 < 2 := by omega
                have HRES : Hid (Lib.validD s.data.toList = false) := HE.out.symm.trans (short_lead s k 2 128 191 hlt (by rw [← HC.out]; omega) (by rw [← HC.out]; exact HCL.out) hsh)
                go_wp2_with fail
                go_ret
                exact ⟨by rw [HRES.out]; rfl, HB.out⟩
              · have q4 : decide ((s.size : Int) - (k : Int) - 1 < 2) = false := decide_eq_false (by omega)
                have q5 : ¬ (s.size : Int) - (k : Int) - 1 < 2 := by omega
                have i1 : ∀ W, (Instr.index 9 (.string s) (.int .i64 ((k : Int) + 1))).run Tryd.prog W = .ok (.int .u8 ((byte s (k + 1) : Nat) : Int)) W := HRB.out (k + 1) (by omega)
                obtain ⟨d, hd⟩ : ∃ d, d = byte s (k + 1) := ⟨_, rfl⟩
                have hd256 : d < 256 := by rw [hd]; exact byte_lt s _
                rw [← hd] at i1
                have HD := Lib.hid hd
                clear hd
                by_cases hlo : d < 128
                · have d1 : decide ((d : Int) < 128) = true := decide_eq_true (by omega)
                  have d2 : decide (d < 128) = true := decide_eq_true hlo
                  have HRES : Hid (Lib.validD s.data.toList = false) := HE.out.symm.trans (one_lead s k 2 128 191 hlt (by rw [← HC.out]; omega) (by rw [← HC.out]; exact HCL.out) (.inl (by rw [← HD.out]; exact hlo)))
                  go_wp2_with fail
                  go_ret
                  exact ⟨by rw [HRES.out]; rfl, HB.out⟩
                · have d1 : decide ((d : Int) < 128) = false := decide_eq_false (by omega)
                  have d2 : decide (d < 128) = false := decide_eq_false hlo
                  by_cases hhi : 191 < d
                  · have d3 : decide (191 < (d : Int)) = true := decide_eq_true (by omega)
                    have d4 : decide (191 < d) = true := decide_eq_true hhi
                    have HRES : Hid (Lib.validD s.data.toList = false) := HE.out.symm.trans (one_lead s k 2 128 191 hlt (by rw [← HC.out]; omega) (by rw [← HC.out]; exact HCL.out) (.inr (by rw [← HD.out]; exact hhi)))
                    go_wp2_with fail
                    go_ret
                    exact ⟨by rw [HRES.out]; rfl, HB.out⟩
                  · have d3 : decide (191 < (d : Int)) = false := decide_eq_false (by omega)
                    have d4 : decide (191 < d) = false := decide_eq_false hhi
                    go_wp2_with fail
                    go_loopw [8] (fun i wr => ∃ j : Nat, i = .int .i64 j ∧ 2 ≤ j ∧ j ≤ 3 ∧ Hid (∀ x, 2 ≤ x → x < j → 128 ≤ byte s (k + x) ∧ byte s (k + x) ≤ 191) ∧ Hid (Below w.heap.size w wr)) (fun i _ => 5 - (intOf i).toNat)
                    case atStart => exact ⟨2, rfl, Nat.le_refl _, by omega, fun x h1 h2 => by omega, HB⟩
                    case round =>
                      obtain ⟨j, rfl, hj2, hjn, HJ, HB3⟩ := hrel
                      by_cases hj : j ≤ 2
                      · have i2 : ∀ W, (Instr.index 9 (.string s) (.int .i64 ((k : Int) + (j : Int)))).run Tryd.prog W = .ok (.int .u8 ((byte s (k + j) : Nat) : Int)) W := HRB.out (k + j) (by omega)
                        have q6 : IntKind.i64.wrap ((k : Int) + (j : Int)) = (k : Int) + (j : Int) := IntWalk.i64_in _ (by omega)
                        obtain ⟨x, hx⟩ : ∃ x, x = byte s (k + j) := ⟨_, rfl⟩
                        have hx256 : x < 256 := by rw [hx]; exact byte_lt s _
                        rw [← hx] at i2
                        have hand := and_lead ⟨x, hx256⟩
                        have hbit : bits .and .u8 (x : Int) 192 = ((x &&& 192 : Nat) : Int) := u8_and_nat x 192 hx256 (by decide)
                        have HX := Lib.hid hx
                        clear hx
                        by_cases hok : 128 ≤ x ∧ x ≤ 191
                        · have hand2 : x &&& 192 = 128 := hand.2 hok
                          have HJ2 : Hid (∀ y, 2 ≤ y → y < j + 1 → 128 ≤ byte s (k + y) ∧ byte s (k + y) ≤ 191) := by
                            intro y h1 h2
                            rcases Nat.lt_or_ge y j with h3 | h3
                            · exact HJ.out y h1 h3
                            · obtain rfl : y = j := by omega
                              rw [← HX.out]; exact hok
                          have hb6 : (bits .and .u8 (x : Int) 192 != 128) = false := by rw [hbit, hand2]; rfl
                          clear hand hbit hand2 hok
                          go_wp2_with fail
                          go_roundw
                          case rel => exact ⟨j + 1, by go_num, by omega, by omega, HJ2, HB3⟩
                          case measure => simp [intOf]; omega
                        · have hand2 : ¬ x &&& 192 = 128 := fun e => hok (hand.1 e)
                          have hb6 : (bits .and .u8 (x : Int) 192 != 128) = true := by rw [hbit]; simp; omega
                          have HRES : Hid (Lib.validD s.data.toList = false) := HE.out.symm.trans (more_lead s k 2 128 191 j hlt (by rw [← HC.out]; omega) (by rw [← HC.out]; exact HCL.out) hj2 hj (by rw [← HX.out]; omega))
                          clear hand hbit hand2 hok
                          go_wp2_with fail
                          go_ret
                          exact ⟨by rw [HRES.out]; rfl, HB3.out⟩
                      · have HE2 : Hid (Lib.validD (s.data.toList.drop (k + 2 + 1)) = Lib.validD s.data.toList) := (good_lead s k 2 128 191 hlt (by rw [← HC.out]; omega) (by rw [← HC.out]; exact HCL.out) hsh (by rw [← HD.out]; omega) (fun y h1 h2 => HJ.out y h1 (by omega))).symm.trans HE.out
                        have q7 : IntKind.i64.wrap ((k : Int) + 2) = (k : Int) + 2 := IntWalk.i64_in _ (by omega)
                        have q8 : IntKind.i64.wrap ((k : Int) + 2 + 1) = (k : Int) + 2 + 1 := IntWalk.i64_in _ (by omega)
                        go_wp2_with fail
                        go_roundw
                        case rel => exact ⟨k + 2 + 1, by go_num, by omega, HE2, HB3⟩
                        case measure => simp [intOf]; omega
            · have HCL := Lib.hid hcl
              clear hcl
              have q1 : IntKind.i64.wrap ((s.size : Int) - (k : Int)) = (s.size : Int) - (k : Int) := IntWalk.i64_in _ (by omega)
              have q2 : IntKind.i64.wrap ((s.size : Int) - (k : Int) - 1) = (s.size : Int) - (k : Int) - 1 := IntWalk.i64_in _ (by omega)
              have q3 : IntKind.i64.wrap ((k : Int) + 1) = (k : Int) + 1 := IntWalk.i64_in _ (by omega)
              by_cases hsh : s.size - k < 3
              · have q4 : decide ((s.size : Int) - (k : Int) - 1 < 2) = true := decide_eq_true (by omega)
                have q5 : (s.size : Int) - (k : Int) - 1 < 2 := by omega
                have HRES : Hid (Lib.validD s.data.toList = false) := HE.out.symm.trans (short_lead s k 2 128 191 hlt (by rw [← HC.out]; omega) (by rw [← HC.out]; exact HCL.out) hsh)
                go_wp2_with fail
                go_ret
                exact ⟨by rw [HRES.out]; rfl, HB.out⟩
              · have q4 : decide ((s.size : Int) - (k : Int) - 1 < 2) = false := decide_eq_false (by omega)
                have q5 : ¬ (s.size : Int) - (k : Int) - 1 < 2 := by omega
                have i1 : ∀ W, (Instr.index 9 (.string s) (.int .i64 ((k : Int) + 1))).run Tryd.prog W = .ok (.int .u8 ((byte s (k + 1) : Nat) : Int)) W := HRB.out (k + 1) (by omega)
                obtain ⟨d, hd⟩ : ∃ d, d = byte s (k + 1) := ⟨_, rfl⟩
                have hd256 : d < 256 := by rw [hd]; exact byte_lt s _
                rw [← hd] at i1
                have HD := Lib.hid hd
                clear hd
                by_cases hlo : d < 128
                · have d1 : decide ((d : Int) < 128) = true := decide_eq_true (by omega)
                  have d2 : decide (d < 128) = true := decide_eq_true hlo
                  have HRES : Hid (Lib.validD s.data.toList = false) := HE.out.symm.trans (one_lead s k 2 128 191 hlt (by rw [← HC.out]; omega) (by rw [← HC.out]; exact HCL.out) (.inl (by rw [← HD.out]; exact hlo)))
                  go_wp2_with fail
                  go_ret
                  exact ⟨by rw [HRES.out]; rfl, HB.out⟩
                · have d1 : decide ((d : Int) < 128) = false := decide_eq_false (by omega)
                  have d2 : decide (d < 128) = false := decide_eq_false hlo
                  by_cases hhi : 191 < d
                  · have d3 : decide (191 < (d : Int)) = true := decide_eq_true (by omega)
                    have d4 : decide (191 < d) = true := decide_eq_true hhi
                    have HRES : Hid (Lib.validD s.data.toList = false) := HE.out.symm.trans (one_lead s k 2 128 191 hlt (by rw [← HC.out]; omega) (by rw [← HC.out]; exact HCL.out) (.inr (by rw [← HD.out]; exact hhi)))
                    go_wp2_with fail
                    go_ret
                    exact ⟨by rw [HRES.out]; rfl, HB.out⟩
                  · have d3 : decide (191 < (d : Int)) = false := decide_eq_false (by omega)
                    have d4 : decide (191 < d) = false := decide_eq_false hhi
                    go_wp2_with fail
                    go_loopw [8] (fun i wr => ∃ j : Nat, i = .int .i64 j ∧ 2 ≤ j ∧ j ≤ 3 ∧ Hid (∀ x, 2 ≤ x → x < j → 128 ≤ byte s (k + x) ∧ byte s (k + x) ≤ 191) ∧ Hid (Below w.heap.size w wr)) (fun i _ => 5 - (intOf i).toNat)
                    case atStart => exact ⟨2, rfl, Nat.le_refl _, by omega, fun x h1 h2 => by omega, HB⟩
                    case round =>
                      obtain ⟨j, rfl, hj2, hjn, HJ, HB3⟩ := hrel
                      by_cases hj : j ≤ 2
                      · have i2 : ∀ W, (Instr.index 9 (.string s) (.int .i64 ((k : Int) + (j : Int)))).run Tryd.prog W = .ok (.int .u8 ((byte s (k + j) : Nat) : Int)) W := HRB.out (k + j) (by omega)
                        have q6 : IntKind.i64.wrap ((k : Int) + (j : Int)) = (k : Int) + (j : Int) := IntWalk.i64_in _ (by omega)
                        obtain ⟨x, hx⟩ : ∃ x, x = byte s (k + j) := ⟨_, rfl⟩
                        have hx256 : x < 256 := by rw [hx]; exact byte_lt s _
                        rw [← hx] at i2
                        have hand := and_lead ⟨x, hx256⟩
                        have hbit : bits .and .u8 (x : Int) 192 = ((x &&& 192 : Nat) : Int) := u8_and_nat x 192 hx256 (by decide)
                        have HX := Lib.hid hx
                        clear hx
                        by_cases hok : 128 ≤ x ∧ x ≤ 191
                        · have hand2 : x &&& 192 = 128 := hand.2 hok
                          have HJ2 : Hid (∀ y, 2 ≤ y → y < j + 1 → 128 ≤ byte s (k + y) ∧ byte s (k + y) ≤ 191) := by
                            intro y h1 h2
                            rcases Nat.lt_or_ge y j with h3 | h3
                            · exact HJ.out y h1 h3
                            · obtain rfl : y = j := by omega
                              rw [← HX.out]; exact hok
                          have hb6 : (bits .and .u8 (x : Int) 192 != 128) = false := by rw [hbit, hand2]; rfl
                          clear hand hbit hand2 hok
                          go_wp2_with fail
                          go_roundw
                          case rel => exact ⟨j + 1, by go_num, by omega, by omega, HJ2, HB3⟩
                          case measure => simp [intOf]; omega
                        · have hand2 : ¬ x &&& 192 = 128 := fun e => hok (hand.1 e)
                          have hb6 : (bits .and .u8 (x : Int) 192 != 128) = true := by rw [hbit]; simp; omega
                          have HRES : Hid (Lib.validD s.data.toList = false) := HE.out.symm.trans (more_lead s k 2 128 191 j hlt (by rw [← HC.out]; omega) (by rw [← HC.out]; exact HCL.out) hj2 hj (by rw [← HX.out]; omega))
                          clear hand hbit hand2 hok
                          go_wp2_with fail
                          go_ret
                          exact ⟨by rw [HRES.out]; rfl, HB3.out⟩
                      · have HE2 : Hid (Lib.validD (s.data.toList.drop (k + 2 + 1)) = Lib.validD s.data.toList) := (good_lead s k 2 128 191 hlt (by rw [← HC.out]; omega) (by rw [← HC.out]; exact HCL.out) hsh (by rw [← HD.out]; omega) (fun y h1 h2 => HJ.out y h1 (by omega))).symm.trans HE.out
                        have q7 : IntKind.i64.wrap ((k : Int) + 2) = (k : Int) + 2 := IntWalk.i64_in _ (by omega)
                        have q8 : IntKind.i64.wrap ((k : Int) + 2 + 1) = (k : Int) + 2 + 1 := IntWalk.i64_in _ (by omega)
                        go_wp2_with fail
                        go_roundw
                        case rel => exact ⟨k + 2 + 1, by go_num, by omega, HE2, HB3⟩
                        case measure => simp [intOf]; omega
          · have HCL := Lib.hid hcl
            clear hcl
            have q1 : IntKind.i64.wrap ((s.size : Int) - (k : Int)) = (s.size : Int) - (k : Int) := IntWalk.i64_in _ (by omega)
            have q2 : IntKind.i64.wrap ((s.size : Int) - (k : Int) - 1) = (s.size : Int) - (k : Int) - 1 := IntWalk.i64_in _ (by omega)
            have q3 : IntKind.i64.wrap ((k : Int) + 1) = (k : Int) + 1 := IntWalk.i64_in _ (by omega)
            by_cases hsh : s.size - k < 3
            · have q4 : decide ((s.size : Int) - (k : Int) - 1 < 2) = true := decide_eq_true (by omega)
              have q5 : (s.size : Int) - (k : Int) - 1 < 2 := by omega
              have HRES : Hid (Lib.validD s.data.toList = false) := HE.out.symm.trans (short_lead s k 2 128 159 hlt (by rw [← HC.out]; omega) (by rw [← HC.out]; exact HCL.out) hsh)
              go_wp2_with fail
              go_ret
              exact ⟨by rw [HRES.out]; rfl, HB.out⟩
            · have q4 : decide ((s.size : Int) - (k : Int) - 1 < 2) = false := decide_eq_false (by omega)
              have q5 : ¬ (s.size : Int) - (k : Int) - 1 < 2 := by omega
              have i1 : ∀ W, (Instr.index 9 (.string s) (.int .i64 ((k : Int) + 1))).run Tryd.prog W = .ok (.int .u8 ((byte s (k + 1) : Nat) : Int)) W := HRB.out (k + 1) (by omega)
              obtain ⟨d, hd⟩ : ∃ d, d = byte s (k + 1) := ⟨_, rfl⟩
              have hd256 : d < 256 := by rw [hd]; exact byte_lt s _
              rw [← hd] at i1
              have HD := Lib.hid hd
              clear hd
              by_cases hlo : d < 128
              · have d1 : decide ((d : Int) < 128) = true := decide_eq_true (by omega)
                have d2 : decide (d < 128) = true := decide_eq_true hlo
                have HRES : Hid (Lib.validD s.data.toList = false) := HE.out.symm.trans (one_lead s k 2 128 159 hlt (by rw [← HC.out]; omega) (by rw [← HC.out]; exact HCL.out) (.inl (by rw [← HD.out]; exact hlo)))
                go_wp2_with fail
                go_ret
                exact ⟨by rw [HRES.out]; rfl, HB.out⟩
              · have d1 : decide ((d : Int) < 128) = false := decide_eq_false (by omega)
                have d2 : decide (d < 128) = false := decide_eq_false hlo
                by_cases hhi : 159 < d
                · have d3 : decide (159 < (d : Int)) = true := decide_eq_true (by omega)
                  have d4 : decide (159 < d) = true := decide_eq_true hhi
                  have HRES : Hid (Lib.validD s.data.toList = false) := HE.out.symm.trans (one_lead s k 2 128 159 hlt (by rw [← HC.out]; omega) (by rw [← HC.out]; exact HCL.out) (.inr (by rw [← HD.out]; exact hhi)))
                  go_wp2_with fail
                  go_ret
                  exact ⟨by rw [HRES.out]; rfl, HB.out⟩
                · have d3 : decide (159 < (d : Int)) = false := decide_eq_false (by omega)
                  have d4 : decide (159 < d) = false := decide_eq_false hhi
                  go_wp2_with fail
                  go_loopw [8] (fun i wr => ∃ j : Nat, i = .int .i64 j ∧ 2 ≤ j ∧ j ≤ 3 ∧ Hid (∀ x, 2 ≤ x → x < j → 128 ≤ byte s (k + x) ∧ byte s (k + x) ≤ 191) ∧ Hid (Below w.heap.size w wr)) (fun i _ => 5 - (intOf i).toNat)
                  case atStart => exact ⟨2, rfl, Nat.le_refl _, by omega, fun x h1 h2 => by omega, HB⟩
                  case round =>
                    obtain ⟨j, rfl, hj2, hjn, HJ, HB3⟩ := hrel
                    by_cases hj : j ≤ 2
                    · have i2 : ∀ W, (Instr.index 9 (.string s) (.int .i64 ((k : Int) + (j : Int)))).run Tryd.prog W = .ok (.int .u8 ((byte s (k + j) : Nat) : Int)) W := HRB.out (k + j) (by omega)
                      have q6 : IntKind.i64.wrap ((k : Int) + (j : Int)) = (k : Int) + (j : Int) := IntWalk.i64_in _ (by omega)
                      obtain ⟨x, hx⟩ : ∃ x, x = byte s (k + j) := ⟨_, rfl⟩
                      have hx256 : x < 256 := by rw [hx]; exact byte_lt s _
                      rw [← hx] at i2
                      have hand := and_lead ⟨x, hx256⟩
                      have hbit : bits .and .u8 (x : Int) 192 = ((x &&& 192 : Nat) : Int) := u8_and_nat x 192 hx256 (by decide)
                      have HX := Lib.hid hx
                      clear hx
                      by_cases hok : 128 ≤ x ∧ x ≤ 191
                      · have hand2 : x &&& 192 = 128 := hand.2 hok
                        have HJ2 : Hid (∀ y, 2 ≤ y → y < j + 1 → 128 ≤ byte s (k + y) ∧ byte s (k + y) ≤ 191) := by
                          intro y h1 h2
                          rcases Nat.lt_or_ge y j with h3 | h3
                          · exact HJ.out y h1 h3
                          · obtain rfl : y = j := by omega
                            rw [← HX.out]; exact hok
                        have hb6 : (bits .and .u8 (x : Int) 192 != 128) = false := by rw [hbit, hand2]; rfl
                        clear hand hbit hand2 hok
                        go_wp2_with fail
                        go_roundw
                        case rel => exact ⟨j + 1, by go_num, by omega, by omega, HJ2, HB3⟩
                        case measure => simp [intOf]; omega
                      · have hand2 : ¬ x &&& 192 = 128 := fun e => hok (hand.1 e)
                        have hb6 : (bits .and .u8 (x : Int) 192 != 128) = true := by rw [hbit]; simp; omega
                        have HRES : Hid (Lib.validD s.data.toList = false) := HE.out.symm.trans (more_lead s k 2 128 159 j hlt (by rw [← HC.out]; omega) (by rw [← HC.out]; exact HCL.out) hj2 hj (by rw [← HX.out]; omega))
                        clear hand hbit hand2 hok
                        go_wp2_with fail
                        go_ret
                        exact ⟨by rw [HRES.out]; rfl, HB3.out⟩
                    · have HE2 : Hid (Lib.validD (s.data.toList.drop (k + 2 + 1)) = Lib.validD s.data.toList) := (good_lead s k 2 128 159 hlt (by rw [← HC.out]; omega) (by rw [← HC.out]; exact HCL.out) hsh (by rw [← HD.out]; omega) (fun y h1 h2 => HJ.out y h1 (by omega))).symm.trans HE.out
                      have q7 : IntKind.i64.wrap ((k : Int) + 2) = (k : Int) + 2 := IntWalk.i64_in _ (by omega)
                      have q8 : IntKind.i64.wrap ((k : Int) + 2 + 1) = (k : Int) + 2 + 1 := IntWalk.i64_in _ (by omega)
                      go_wp2_with fail
                      go_roundw
                      case rel => exact ⟨k + 2 + 1, by go_num, by omega, HE2, HB3⟩
                      case measure => simp [intOf]; omega
          · have HCL := Lib.hid hcl
            clear hcl
            have q1 : IntKind.i64.wrap ((s.size : Int) - (k : Int)) = (s.size : Int) - (k : Int) := IntWalk.i64_in _ (by omega)
            have q2 : IntKind.i64.wrap ((s.size : Int) - (k : Int) - 1) = (s.size : Int) - (k : Int) - 1 := IntWalk.i64_in _ (by omega)
            have q3 : IntKind.i64.wrap ((k : Int) + 1) = (k : Int) + 1 := IntWalk.i64_in _ (by omega)
            by_cases hsh : s.size - k < 4
            · have q4 : decide ((s.size : Int) - (k : Int) - 1 < 3) = true := decide_eq_true (by omega)
              have q5 : (s.size : Int) - (k : Int) - 1 < 3 := by omega
              have HRES : Hid (Lib.validD s.data.toList = false) := HE.out.symm.trans (short_lead s k 3 144 191 hlt (by rw [← HC.out]; omega) (by rw [← HC.out]; exact HCL.out) hsh)
              go_wp2_with fail
              go_ret
              exact ⟨by rw [HRES.out]; rfl, HB.out⟩
            · have q4 : decide ((s.size : Int) - (k : Int) - 1 < 3) = false := decide_eq_false (by omega)
              have q5 : ¬ (s.size : Int) - (k : Int) - 1 < 3 := by omega
              have i1 : ∀ W, (Instr.index 9 (.string s) (.int .i64 ((k : Int) + 1))).run Tryd.prog W = .ok (.int .u8 ((byte s (k + 1) : Nat) : Int)) W := HRB.out (k + 1) (by omega)
              obtain ⟨d, hd⟩ : ∃ d, d = byte s (k + 1) := ⟨_, rfl⟩
              have hd256 : d < 256 := by rw [hd]; exact byte_lt s _
              rw [← hd] at i1
              have HD := Lib.hid hd
              clear hd
              by_cases hlo : d < 144
              · have d1 : decide ((d : Int) < 144) = true := decide_eq_true (by omega)
                have d2 : decide (d < 144) = true := decide_eq_true hlo
                have HRES : Hid (Lib.validD s.data.toList = false) := HE.out.symm.trans (one_lead s k 3 144 191 hlt (by rw [← HC.out]; omega) (by rw [← HC.out]; exact HCL.out) (.inl (by rw [← HD.out]; exact hlo)))
                go_wp2_with fail
                go_ret
                exact ⟨by rw [HRES.out]; rfl, HB.out⟩
              · have d1 : decide ((d : Int) < 144) = false := decide_eq_false (by omega)
                have d2 : decide (d < 144) = false := decide_eq_false hlo
                by_cases hhi : 191 < d
                · have d3 : decide (191 < (d : Int)) = true := decide_eq_true (by omega)
                  have d4 : decide (191 < d) = true := decide_eq_true hhi
                  have HRES : Hid (Lib.validD s.data.toList = false) := HE.out.symm.trans (one_lead s k 3 144 191 hlt (by rw [← HC.out]; omega) (by rw [← HC.out]; exact HCL.out) (.inr (by rw [← HD.out]; exact hhi)))
                  go_wp2_with fail
                  go_ret
                  exact ⟨by rw [HRES.out]; rfl, HB.out⟩
                · have d3 : decide (191 < (d : Int)) = false := decide_eq_false (by omega)
                  have d4 : decide (191 < d) = false := decide_eq_false hhi
                  go_wp2_with fail
                  go_loopw [8] (fun i wr => ∃ j : Nat, i = .int .i64 j ∧ 2 ≤ j ∧ j ≤ 4 ∧ Hid (∀ x, 2 ≤ x → x < j → 128 ≤ byte s (k + x) ∧ byte s (k + x) ≤ 191) ∧ Hid (Below w.heap.size w wr)) (fun i _ => 5 - (intOf i).toNat)
                  case atStart => exact ⟨2, rfl, Nat.le_refl _, by omega, fun x h1 h2 => by omega, HB⟩
                  case round =>
                    obtain ⟨j, rfl, hj2, hjn, HJ, HB3⟩ := hrel
                    by_cases hj : j ≤ 3
                    · have i2 : ∀ W, (Instr.index 9 (.string s) (.int .i64 ((k : Int) + (j : Int)))).run Tryd.prog W = .ok (.int .u8 ((byte s (k + j) : Nat) : Int)) W := HRB.out (k + j) (by omega)
                      have q6 : IntKind.i64.wrap ((k : Int) + (j : Int)) = (k : Int) + (j : Int) := IntWalk.i64_in _ (by omega)
                      obtain ⟨x, hx⟩ : ∃ x, x = byte s (k + j) := ⟨_, rfl⟩
                      have hx256 : x < 256 := by rw [hx]; exact byte_lt s _
                      rw [← hx] at i2
                      have hand := and_lead ⟨x, hx256⟩
                      have hbit : bits .and .u8 (x : Int) 192 = ((x &&& 192 : Nat) : Int) := u8_and_nat x 192 hx256 (by decide)
                      have HX := Lib.hid hx
                      clear hx
                      by_cases hok : 128 ≤ x ∧ x ≤ 191
                      · have hand2 : x &&& 192 = 128 := hand.2 hok
                        have HJ2 : Hid (∀ y, 2 ≤ y → y < j + 1 → 128 ≤ byte s (k + y) ∧ byte s (k + y) ≤ 191) := by
                          intro y h1 h2
                          rcases Nat.lt_or_ge y j with h3 | h3
                          · exact HJ.out y h1 h3
                          · obtain rfl : y = j := by omega
                            rw [← HX.out]; exact hok
                        have hb6 : (bits .and .u8 (x : Int) 192 != 128) = false := by rw [hbit, hand2]; rfl
                        clear hand hbit hand2 hok
                        go_wp2_with fail
                        go_roundw
                        case rel => exact ⟨j + 1, by go_num, by omega, by omega, HJ2, HB3⟩
                        case measure => simp [intOf]; omega
                      · have hand2 : ¬ x &&& 192 = 128 := fun e => hok (hand.1 e)
                        have hb6 : (bits .and .u8 (x : Int) 192 != 128) = true := by rw [hbit]; simp; omega
                        have HRES : Hid (Lib.validD s.data.toList = false) := HE.out.symm.trans (more_lead s k 3 144 191 j hlt (by rw [← HC.out]; omega) (by rw [← HC.out]; exact HCL.out) hj2 hj (by rw [← HX.out]; omega))
                        clear hand hbit hand2 hok
                        go_wp2_with fail
                        go_ret
                        exact ⟨by rw [HRES.out]; rfl, HB3.out⟩
                    · have HE2 : Hid (Lib.validD (s.data.toList.drop (k + 3 + 1)) = Lib.validD s.data.toList) := (good_lead s k 3 144 191 hlt (by rw [← HC.out]; omega) (by rw [← HC.out]; exact HCL.out) hsh (by rw [← HD.out]; omega) (fun y h1 h2 => HJ.out y h1 (by omega))).symm.trans HE.out
                      have q7 : IntKind.i64.wrap ((k : Int) + 3) = (k : Int) + 3 := IntWalk.i64_in _ (by omega)
                      have q8 : IntKind.i64.wrap ((k : Int) + 3 + 1) = (k : Int) + 3 + 1 := IntWalk.i64_in _ (by omega)
                      go_wp2_with fail
                      go_roundw
                      case rel => exact ⟨k + 3 + 1, by go_num, by omega, HE2, HB3⟩
                      case measure => simp [intOf]; omega
          · have HCL := Lib.hid hcl
            clear hcl
            have q1 : IntKind.i64.wrap ((s.size : Int) - (k : Int)) = (s.size : Int) - (k : Int) := IntWalk.i64_in _ (by omega)
            have q2 : IntKind.i64.wrap ((s.size : Int) - (k : Int) - 1) = (s.size : Int) - (k : Int) - 1 := IntWalk.i64_in _ (by omega)
            have q3 : IntKind.i64.wrap ((k : Int) + 1) = (k : Int) + 1 := IntWalk.i64_in _ (by omega)
            by_cases hsh : s.size - k < 4
            · have q4 : decide ((s.size : Int) - (k : Int) - 1 < 3) = true := decide_eq_true (by omega)
              have q5 : (s.size : Int) - (k : Int) - 1 < 3 := by omega
              have HRES : Hid (Lib.validD s.data.toList = false) := HE.out.symm.trans (short_lead s k 3 128 191 hlt (by rw [← HC.out]; omega) (by rw [← HC.out]; exact HCL.out) hsh)
              go_wp2_with fail
              go_ret
              exact ⟨by rw [HRES.out]; rfl, HB.out⟩
            · have q4 : decide ((s.size : Int) - (k : Int) - 1 < 3) = false := decide_eq_false (by omega)
              have q5 : ¬ (s.size : Int) - (k : Int) - 1 < 3 := by omega
              have i1 : ∀ W, (Instr.index 9 (.string s) (.int .i64 ((k : Int) + 1))).run Tryd.prog W = .ok (.int .u8 ((byte s (k + 1) : Nat) : Int)) W := HRB.out (k + 1) (by omega)
              obtain ⟨d, hd⟩ : ∃ d, d = byte s (k + 1) := ⟨_, rfl⟩
              have hd256 : d < 256 := by rw [hd]; exact byte_lt s _
              rw [← hd] at i1
              have HD := Lib.hid hd
              clear hd
              by_cases hlo : d < 128
              · have d1 : decide ((d : Int) < 128) = true := decide_eq_true (by omega)
                have d2 : decide (d < 128) = true := decide_eq_true hlo
                have HRES : Hid (Lib.validD s.data.toList = false) := HE.out.symm.trans (one_lead s k 3 128 191 hlt (by rw [← HC.out]; omega) (by rw [← HC.out]; exact HCL.out) (.inl (by rw [← HD.out]; exact hlo)))
                go_wp2_with fail
                go_ret
                exact ⟨by rw [HRES.out]; rfl, HB.out⟩
              · have d1 : decide ((d : Int) < 128) = false := decide_eq_false (by omega)
                have d2 : decide (d < 128) = false := decide_eq_false hlo
                by_cases hhi : 191 < d
                · have d3 : decide (191 < (d : Int)) = true := decide_eq_true (by omega)
                  have d4 : decide (191 < d) = true := decide_eq_true hhi
                  have HRES : Hid (Lib.validD s.data.toList = false) := HE.out.symm.trans (one_lead s k 3 128 191 hlt (by rw [← HC.out]; omega) (by rw [← HC.out]; exact HCL.out) (.inr (by rw [← HD.out]; exact hhi)))
                  go_wp2_with fail
                  go_ret
                  exact ⟨by rw [HRES.out]; rfl, HB.out⟩
                · have d3 : decide (191 < (d : Int)) = false := decide_eq_false (by omega)
                  have d4 : decide (191 < d) = false := decide_eq_false hhi
                  go_wp2_with fail
                  go_loopw [8] (fun i wr => ∃ j : Nat, i = .int .i64 j ∧ 2 ≤ j ∧ j ≤ 4 ∧ Hid (∀ x, 2 ≤ x → x < j → 128 ≤ byte s (k + x) ∧ byte s (k + x) ≤ 191) ∧ Hid (Below w.heap.size w wr)) (fun i _ => 5 - (intOf i).toNat)
                  case atStart => exact ⟨2, rfl, Nat.le_refl _, by omega, fun x h1 h2 => by omega, HB⟩
                  case round =>
                    obtain ⟨j, rfl, hj2, hjn, HJ, HB3⟩ := hrel
                    by_cases hj : j ≤ 3
                    · have i2 : ∀ W, (Instr.index 9 (.string s) (.int .i64 ((k : Int) + (j : Int)))).run Tryd.prog W = .ok (.int .u8 ((byte s (k + j) : Nat) : Int)) W := HRB.out (k + j) (by omega)
                      have q6 : IntKind.i64.wrap ((k : Int) + (j : Int)) = (k : Int) + (j : Int) := IntWalk.i64_in _ (by omega)
                      obtain ⟨x, hx⟩ : ∃ x, x = byte s (k + j) := ⟨_, rfl⟩
                      have hx256 : x < 256 := by rw [hx]; exact byte_lt s _
                      rw [← hx] at i2
                      have hand := and_lead ⟨x, hx256⟩
                      have hbit : bits .and .u8 (x : Int) 192 = ((x &&& 192 : Nat) : Int) := u8_and_nat x 192 hx256 (by decide)
                      have HX := Lib.hid hx
                      clear hx
                      by_cases hok : 128 ≤ x ∧ x ≤ 191
                      · have hand2 : x &&& 192 = 128 := hand.2 hok
                        have HJ2 : Hid (∀ y, 2 ≤ y → y < j + 1 → 128 ≤ byte s (k + y) ∧ byte s (k + y) ≤ 191) := by
                          intro y h1 h2
                          rcases Nat.lt_or_ge y j with h3 | h3
                          · exact HJ.out y h1 h3
                          · obtain rfl : y = j := by omega
                            rw [← HX.out]; exact hok
                        have hb6 : (bits .and .u8 (x : Int) 192 != 128) = false := by rw [hbit, hand2]; rfl
                        clear hand hbit hand2 hok
                        go_wp2_with fail
                        go_roundw
                        case rel => exact ⟨j + 1, by go_num, by omega, by omega, HJ2, HB3⟩
                        case measure => simp [intOf]; omega
                      · have hand2 : ¬ x &&& 192 = 128 := fun e => hok (hand.1 e)
                        have hb6 : (bits .and .u8 (x : Int) 192 != 128) = true := by rw [hbit]; simp; omega
                        have HRES : Hid (Lib.validD s.data.toList = false) := HE.out.symm.trans (more_lead s k 3 128 191 j hlt (by rw [← HC.out]; omega) (by rw [← HC.out]; exact HCL.out) hj2 hj (by rw [← HX.out]; omega))
                        clear hand hbit hand2 hok
                        go_wp2_with fail
                        go_ret
                        exact ⟨by rw [HRES.out]; rfl, HB3.out⟩
                    · have HE2 : Hid (Lib.validD (s.data.toList.drop (k + 3 + 1)) = Lib.validD s.data.toList) := (good_lead s k 3 128 191 hlt (by rw [← HC.out]; omega) (by rw [← HC.out]; exact HCL.out) hsh (by rw [← HD.out]; omega) (fun y h1 h2 => HJ.out y h1 (by omega))).symm.trans HE.out
                      have q7 : IntKind.i64.wrap ((k : Int) + 3) = (k : Int) + 3 := IntWalk.i64_in _ (by omega)
                      have q8 : IntKind.i64.wrap ((k : Int) + 3 + 1) = (k : Int) + 3 + 1 := IntWalk.i64_in _ (by omega)
                      go_wp2_with fail
                      go_roundw
                      case rel => exact ⟨k + 3 + 1, by go_num, by omega, HE2, HB3⟩
                      case measure => simp [intOf]; omega
          · have HCL := Lib.hid hcl
            clear hcl
            have q1 : IntKind.i64.wrap ((s.size : Int) - (k : Int)) = (s.size : Int) - (k : Int) := IntWalk.i64_in _ (by omega)
            have q2 : IntKind.i64.wrap ((s.size : Int) - (k : Int) - 1) = (s.size : Int) - (k : Int) - 1 := IntWalk.i64_in _ (by omega)
            have q3 : IntKind.i64.wrap ((k : Int) + 1) = (k : Int) + 1 := IntWalk.i64_in _ (by omega)
            by_cases hsh : s.size - k < 4
            · have q4 : decide ((s.size : Int) - (k : Int) - 1 < 3) = true := decide_eq_true (by omega)
              have q5 : (s.size : Int) - (k : Int) - 1 < 3 := by omega
              have HRES : Hid (Lib.validD s.data.toList = false) := HE.out.symm.trans (short_lead s k 3 128 143 hlt (by rw [← HC.out]; omega) (by rw [← HC.out]; exact HCL.out) hsh)
              go_wp2_with fail
              go_ret
              exact ⟨by rw [HRES.out]; rfl, HB.out⟩
            · have q4 : decide ((s.size : Int) - (k : Int) - 1 < 3) = false := decide_eq_false (by omega)
              have q5 : ¬ (s.size : Int) - (k : Int) - 1 < 3 := by omega
              have i1 : ∀ W, (Instr.index 9 (.string s) (.int .i64 ((k : Int) + 1))).run Tryd.prog W = .ok (.int .u8 ((byte s (k + 1) : Nat) : Int)) W := HRB.out (k + 1) (by omega)
              obtain ⟨d, hd⟩ : ∃ d, d = byte s (k + 1) := ⟨_, rfl⟩
              have hd256 : d < 256 := by rw [hd]; exact byte_lt s _
              rw [← hd] at i1
              have HD := Lib.hid hd
              clear hd
              by_cases hlo : d < 128
              · have d1 : decide ((d : Int) < 128) = true := decide_eq_true (by omega)
                have d2 : decide (d < 128) = true := decide_eq_true hlo
                have HRES : Hid (Lib.validD s.data.toList = false) := HE.out.symm.trans (one_lead s k 3 128 143 hlt (by rw [← HC.out]; omega) (by rw [← HC.out]; exact HCL.out) (.inl (by rw [← HD.out]; exact hlo)))
                go_wp2_with fail
                go_ret
                exact ⟨by rw [HRES.out]; rfl, HB.out⟩
              · have d1 : decide ((d : Int) < 128) = false := decide_eq_false (by omega)
                have d2 : decide (d < 128) = false := decide_eq_false hlo
                by_cases hhi : 143 < d
                · have d3 : decide (143 < (d : Int)) = true := decide_eq_true (by omega)
                  have d4 : decide (143 < d) = true := decide_eq_true hhi
                  have HRES : Hid (Lib.validD s.data.toList = false) := HE.out.symm.trans (one_lead s k 3 128 143 hlt (by rw [← HC.out]; omega) (by rw [← HC.out]; exact HCL.out) (.inr (by rw [← HD.out]; exact hhi)))
                  go_wp2_with fail
                  go_ret
                  exact ⟨by rw [HRES.out]; rfl, HB.out⟩
                · have d3 : decide (143 < (d : Int)) = false := decide_eq_false (by omega)
                  have d4 : decide (143 < d) = false := decide_eq_false hhi
                  go_wp2_with fail
                  go_loopw [8] (fun i wr => ∃ j : Nat, i = .int .i64 j ∧ 2 ≤ j ∧ j ≤ 4 ∧ Hid (∀ x, 2 ≤ x → x < j → 128 ≤ byte s (k + x) ∧ byte s (k + x) ≤ 191) ∧ Hid (Below w.heap.size w wr)) (fun i _ => 5 - (intOf i).toNat)
                  case atStart => exact ⟨2, rfl, Nat.le_refl _, by omega, fun x h1 h2 => by omega, HB⟩
                  case round =>
                    obtain ⟨j, rfl, hj2, hjn, HJ, HB3⟩ := hrel
                    by_cases hj : j ≤ 3
                    · have i2 : ∀ W, (Instr.index 9 (.string s) (.int .i64 ((k : Int) + (j : Int)))).run Tryd.prog W = .ok (.int .u8 ((byte s (k + j) : Nat) : Int)) W := HRB.out (k + j) (by omega)
                      have q6 : IntKind.i64.wrap ((k : Int) + (j : Int)) = (k : Int) + (j : Int) := IntWalk.i64_in _ (by omega)
                      obtain ⟨x, hx⟩ : ∃ x, x = byte s (k + j) := ⟨_, rfl⟩
                      have hx256 : x < 256 := by rw [hx]; exact byte_lt s _
                      rw [← hx] at i2
                      have hand := and_lead ⟨x, hx256⟩
                      have hbit : bits .and .u8 (x : Int) 192 = ((x &&& 192 : Nat) : Int) := u8_and_nat x 192 hx256 (by decide)
                      have HX := Lib.hid hx
                      clear hx
                      by_cases hok : 128 ≤ x ∧ x ≤ 191
                      · have hand2 : x &&& 192 = 128 := hand.2 hok
                        have HJ2 : Hid (∀ y, 2 ≤ y → y < j + 1 → 128 ≤ byte s (k + y) ∧ byte s (k + y) ≤ 191) := by
                          intro y h1 h2
                          rcases Nat.lt_or_ge y j with h3 | h3
                          · exact HJ.out y h1 h3
                          · obtain rfl : y = j := by omega
                            rw [← HX.out]; exact hok
                        have hb6 : (bits .and .u8 (x : Int) 192 != 128) = false := by rw [hbit, hand2]; rfl
                        clear hand hbit hand2 hok
                        go_wp2_with fail
                        go_roundw
                        case rel => exact ⟨j + 1, by go_num, by omega, by omega, HJ2, HB3⟩
                        case measure => simp [intOf]; omega
                      · have hand2 : ¬ x &&& 192 = 128 := fun e => hok (hand.1 e)
                        have hb6 : (bits .and .u8 (x : Int) 192 != 128) = true := by rw [hbit]; simp; omega
                        have HRES : Hid (Lib.validD s.data.toList = false) := HE.out.symm.trans (more_lead s k 3 128 143 j hlt (by rw [← HC.out]; omega) (by rw [← HC.out]; exact HCL.out) hj2 hj (by rw [← HX.out]; omega))
                        clear hand hbit hand2 hok
                        go_wp2_with fail
                        go_ret
                        exact ⟨by rw [HRES.out]; rfl, HB3.out⟩
                    · have HE2 : Hid (Lib.validD (s.data.toList.drop (k + 3 + 1)) = Lib.validD s.data.toList) := (good_lead s k 3 128 143 hlt (by rw [← HC.out]; omega) (by rw [← HC.out]; exact HCL.out) hsh (by rw [← HD.out]; omega) (fun y h1 h2 => HJ.out y h1 (by omega))).symm.trans HE.out
                      have q7 : IntKind.i64.wrap ((k : Int) + 3) = (k : Int) + 3 := IntWalk.i64_in _ (by omega)
                      have q8 : IntKind.i64.wrap ((k : Int) + 3 + 1) = (k : Int) + 3 + 1 := IntWalk.i64_in _ (by omega)
                      go_wp2_with fail
                      go_roundw
                      case rel => exact ⟨k + 3 + 1, by go_num, by omega, HE2, HB3⟩
                      case measure => simp [intOf]; omega
    · have hkk : k = s.size := by omega
      have HRES : Hid (Lib.validD s.data.toList = true) := by
        have := HE.out
        rw [List.drop_eq_nil_of_le (by rw [len_list]; omega)] at this
        exact this.symm
      go_wp2_with fail
      go_ret
      exact ⟨by rw [HRES.out]; rfl, HB.out⟩
end Go.Proofs.YtpiookgkkaafeaaDoor
end
section
namespace Go.Proofs.YtpiookgkkaafeaaDoor
open Go.RowKit
open Seal
open Path
/-- The tables of utf8, and strings' package variable, as they are read. -/
structure Ground (w : World) : Prop where
  tabs : Lib.Utf8Tabs 0 1 w
  most : ∃ m, w.cell? ⟨2, 0, none⟩ = some (.int .i64 m)
theorem Ground.keep {w w' : World} (h : Ground w) (hb : Below w.heap.size w w') : Ground w' := by
  obtain ⟨h1, m, h2⟩ := h
  exact ⟨⟨fun c hc => cell_keep hb (h1.1 c hc), fun i hi => ⟨cell_keep hb (h1.2 i hi).1, cell_keep hb (h1.2 i hi).2⟩⟩, m, cell_keep hb h2⟩
theorem empty_iff (s : ByteArray) : s = ⟨#[]⟩ ↔ s.size = 0 := by
  constructor
  · rintro rfl; rfl
  · intro h
    obtain ⟨⟨l⟩⟩ := s
    cases l with
    | nil => rfl
    | cons a r => simp [ByteArray.size] at h
end Go.Proofs.YtpiookgkkaafeaaDoor
end
section
namespace Go.Proofs.YtpiookgkkaafeaaDoor
open Go.RowKit
open Seal
open Path
namespace Path
/-- Names as texts. -/
def names (l : List (List UInt8)) : List ByteArray := l.map fun x => ⟨x.toArray⟩
/-- What the loop of Parse holds: the names so far, and what is left, if there is more. -/
def PRest (l : List UInt8) (done : List (List UInt8)) (rest : ByteArray) (more : Bool) : Prop := split l = done ++ (if more then split rest.data.toList else []) ∧ done.all may = true ∧ done.length ≤ 16
theorem PRest.done {l : List UInt8} {done : List (List UInt8)} {rest : ByteArray} (h : PRest l done rest false) : parse l = some done := by
  obtain ⟨h1, h2, h3⟩ := h
  simp only [Bool.false_eq_true, if_false, List.append_nil] at h1
  unfold parse
  rw [h1, if_pos ⟨h2, h3⟩]
end Path
/-- A slice of texts. -/
def NamesAt (w : World) (v : Value) (p : List ByteArray) : Prop := ∃ a c, v = .slice a p.length c ∧ p.length ≤ c ∧ c ≤ 9223372036854775807 ∧ StrsIn w a p
theorem one_new (w : World) (c : Value) (t : TypeId) : ∀ j u, ([c] : List Value)[j]? = some u → (w.alloc (.cells #[c] t)).cell? (Addr.add ⟨w.heap.size, 0, none⟩ j) = some u := by
  intro j u hj
  rw [Addr.add_mid, Nat.zero_add, cell_of_row _ _ j _ _ _ (heap_alloc_new w _)]
  simpa using hj
end Go.Proofs.YtpiookgkkaafeaaDoor
end
section
namespace Go.Proofs.YtpiookgkkaafeaaDoor
open Go.RowKit
open Seal
open Path
namespace Path
def nameMay (l : List UInt8) : Bool := decide (0 ∉ l) && decide (l.length ≤ 120) && Lib.validD l
theorem mem_byte (s : ByteArray) (c : UInt8) (k : Nat) (hk : k < s.size) (h : byte s k = c.toNat) : c ∈ s.data.toList := by
  have hl := len_list s
  have e : s.data.toList[k]'(by omega) = c := by
    apply UInt8.toNat_inj.1
    unfold byte at h
    rw [List.getD_eq_getElem?_getD, List.getElem?_eq_getElem (by omega)] at h
    exact h
  rw [← e]
  exact List.getElem_mem _
theorem not_mem_byte (s : ByteArray) (c : UInt8) (h : ∀ k, k < s.size → byte s k ≠ c.toNat) : c ∉ s.data.toList := by
  intro hm
  obtain ⟨k, hk, e⟩ := List.getElem_of_mem hm
  rw [len_list] at hk
  refine h k hk ?_
  unfold byte
  rw [List.getD_eq_getElem?_getD, List.getElem?_eq_getElem (by rw [len_list]; exact hk), e]
  rfl
end Path
set_option maxRecDepth 100000 in
set_option maxHeartbeats 1000000 in
theorem nameMay_any (s : ByteArray) (w : World) (hs : s.size ≤ 140737488355328) :
    Calls Tryd.prog 73 #[.string s] w fun e w' => e = .returned (.bool (nameMay s.data.toList)) ∧ Below w.heap.size w w' := by
  have HRB := Lib.hid (run_byte s)
  have CU := Lib.hid (fun wx => utf8ref_any s wx hs)
  have hl := len_list s
  go_enter Tryd.func73, Tryd.ntmps73
  go_wp2_with fail
  go_loopw [3] (fun i wr => ∃ k : Nat, i = .int .i64 k ∧ k ≤ s.size ∧ Hid (∀ j, j < k → byte s j ≠ 0) ∧ Hid (Below w.heap.size w wr)) (fun i _ => s.size - (intOf i).toNat)
  case atStart => exact ⟨0, rfl, Nat.zero_le _, fun j hj => by omega, Below.refl _ _⟩
  case round =>
    obtain ⟨k, rfl, hk, HZ, HB⟩ := hrel
    by_cases hlt : k < s.size
    · have i0 := HRB.out k hlt
      obtain ⟨c, hc⟩ : ∃ c, c = byte s k := ⟨_, rfl⟩
      rw [← hc] at i0
      have hc256 : c < 256 := by rw [hc]; exact byte_lt s k
      have HC := Lib.hid hc
      clear hc
      by_cases h0 : c = 0
      · subst h0
        have hres : nameMay s.data.toList = false := by
          have := mem_byte s 0 k hlt (by rw [← HC.out]; rfl)
          unfold nameMay; rw [decide_eq_false (by simpa using this)]; rfl
        have HRES := Lib.hid hres
        clear hres
        have i1 : ∀ W, (Instr.index 9 (.string s) (.int .i64 (k : Int))).run Tryd.prog W = .ok (.int .u8 0) W := i0
        go_wp2_with fail
        go_ret
        exact ⟨by rw [HRES.out]; rfl, HB.out⟩
      · have hcb : ((c : Int) == 0) = false := by simpa using h0
        have HZ2 : Hid (∀ j, j < k + 1 → byte s j ≠ 0) := by
          intro j hj
          rcases Nat.lt_or_ge j k with h | h
          · exact HZ.out j h
          · obtain rfl : j = k := by omega
            rw [← HC.out]; exact h0
        go_wp2_with fail
        go_roundw
        case rel => exact ⟨k + 1, by go_num, by omega, HZ2, HB⟩
        case measure => simp [intOf]; omega
    · have hkk : k = s.size := by omega
      have h0 : (0 : UInt8) ∉ s.data.toList := not_mem_byte s 0 (fun j hj => HZ.out j (by omega))
      by_cases h120 : s.size ≤ 120
      · have hres : nameMay s.data.toList = Lib.validD s.data.toList := by
          unfold nameMay; rw [decide_eq_true h0, decide_eq_true (by omega)]; simp
        have HRES := Lib.hid hres
        clear hres h0
        go_wp2_with fail
        refine (CU.out _).mono ?_
        rintro e w2 ⟨rfl, hb⟩
        have HB2 : Hid (Below w.heap.size w w2) := HB.out.trans (hb.mono HB.out.size)
        clear hb
        go_wp2_with fail
        go_ret
        exact ⟨by rw [HRES.out]; rfl, HB2.out⟩
      · have hres : nameMay s.data.toList = false := by
          unfold nameMay; rw [decide_eq_false (show ¬ s.data.toList.length ≤ 120 by omega)]; simp
        have HRES := Lib.hid hres
        clear hres h0
        go_wp2_with fail
        go_ret
        exact ⟨by rw [HRES.out]; rfl, HB.out⟩
/-- The rows are the same just if they are alike. -/
def NamesIn (w : World) (v : Value) (p : List ByteArray) : Prop := ∃ a n c, v = .slice a n c ∧ n = p.length ∧ n ≤ 9223372036854775807 ∧ StrsIn w a p
theorem NamesAt.in {w : World} {v : Value} {p : List ByteArray} (h : NamesAt w v p) : NamesIn w v p := by
  obtain ⟨a, c, rfl, h1, h2, h3⟩ := h
  exact ⟨a, _, c, rfl, rfl, by omega, h3⟩
theorem NamesIn.keep {w w' : World} {v : Value} {p : List ByteArray} (h : NamesIn w v p) (hb : Below w.heap.size w w') : NamesIn w' v p := by
  obtain ⟨a, n, c, e, h1, h2, h3⟩ := h
  exact ⟨a, n, c, e, h1, h2, h3.keep hb⟩
end Go.Proofs.YtpiookgkkaafeaaDoor
end
section
namespace Go.Proofs.YtpiookgkkaafeaaDoor
open Go.RowKit
open Seal
open Path
namespace Path
/-- What the loop of ParsePath holds: the names so far; the place where the name begins that is being read; the place. -/
def Scan (l : List UInt8) (done : List (List UInt8)) (a i : Nat) : Prop :=
  a ≤ i ∧ done.all may = true ∧ done.length ≤ 16 ∧ ((i ≤ l.length ∧ split l = done ++ split (l.drop a) ∧ 46 ∉ (l.take i).drop a) ∨ (i = l.length + 1 ∧ a = i ∧ split l = done))
theorem Scan.next {l : List UInt8} {done : List (List UInt8)} {a i : Nat} (h : Scan l done a i) (hi : i < l.length) (hc : l[i] ≠ 46) : Scan l done a (i + 1) := by
  obtain ⟨h1, h2, h3, ⟨h4, h5, h6⟩ | ⟨h4, h5, h6⟩⟩ := h
  · refine ⟨by omega, h2, h3, .inl ⟨by omega, h5, ?_⟩⟩
    rw [List.take_add_one, List.getElem?_eq_getElem hi, List.drop_append_of_le_length (by simp; omega)]
    intro hm
    rcases List.mem_append.1 hm with hm | hm
    · exact h6 hm
    · simp at hm; exact hc hm.symm
  · omega
theorem Scan.name {l : List UInt8} {done : List (List UInt8)} {a i : Nat} (h : Scan l done a i) (hi : i ≤ l.length) (hc : ∀ h : i < l.length, l[i] = 46) :
    ∃ more, split l = done ++ ((l.take i).drop a) :: more ∧ (i = l.length → more = []) ∧ (i < l.length → more = split (l.drop (i + 1))) := by
  obtain ⟨h1, h2, h3, ⟨h4, h5, h6⟩ | ⟨h4, h5, h6⟩⟩ := h
  · rcases Nat.lt_or_ge i l.length with hlt | hge
    · have e : l.drop a = (l.take i).drop a ++ 46 :: l.drop (i + 1) := by
        have e1 : l = l.take i ++ l.drop i := (List.take_append_drop i l).symm
        have e2 : l.drop i = 46 :: l.drop (i + 1) := by rw [List.drop_eq_getElem_cons hlt, hc hlt]
        conv => lhs; rw [e1, List.drop_append_of_le_length (by simp; omega), e2]
      refine ⟨split (l.drop (i + 1)), ?_, fun e => by omega, fun _ => rfl⟩
      rw [h5, e, split_cut _ _ h6]
    · have e : (l.take i).drop a = l.drop a := by rw [List.take_of_length_le (by omega)]
      refine ⟨[], ?_, fun _ => rfl, fun e => by omega⟩
      rw [h5, ← e, split_free _ h6]
  · omega
theorem Scan.push {l : List UInt8} {done : List (List UInt8)} {a i : Nat} (h : Scan l done a i) (hi : i ≤ l.length) (hc : ∀ h : i < l.length, l[i] = 46) (hm : may ((l.take i).drop a) = true) (hd : done.length < 16) :
    Scan l (done ++ [(l.take i).drop a]) (i + 1) (i + 1) := by
  obtain ⟨more, h1, h2, h3⟩ := h.name hi hc
  refine ⟨Nat.le_refl _, by rw [List.all_append, h.2.1]; simp [hm], by simp; omega, ?_⟩
  rcases Nat.lt_or_ge i l.length with hlt | hge
  · refine .inl ⟨by omega, by rw [h1, h3 hlt, List.append_assoc]; rfl, ?_⟩
    rw [List.drop_of_length_le (by simp; omega)]; simp
  · exact .inr ⟨by omega, rfl, by rw [h1, h2 (by omega)]⟩
theorem Scan.done {l : List UInt8} {done : List (List UInt8)} {a i : Nat} (h : Scan l done a i) (hi : l.length < i) : parse l = some done := by
  obtain ⟨h1, h2, h3, ⟨h4, h5, h6⟩ | ⟨h4, h5, h6⟩⟩ := h
  · omega
  · unfold parse; rw [h6, if_pos ⟨h2, h3⟩]
theorem filled (x : ByteArray) (h : ¬ x.size = 0) : (x.toList == (⟨#[]⟩ : ByteArray).toList) = false ∧ ¬ x.toList = [] ∧ x.toList.isEmpty = false := by
  have h1 : ¬ x.toList = [] := fun e => h (by
    rw [ByteArray.toList_eq] at e
    obtain ⟨⟨l⟩⟩ := x
    simp only at e
    subst e
    rfl)
  refine ⟨str_ne (fun e => h ((empty_iff x).1 e)), h1, ?_⟩
  cases e : x.toList with
  | nil => exact absurd e h1
  | cons _ _ => rfl
end Path
end Go.Proofs.YtpiookgkkaafeaaDoor
end
section
namespace Go.Proofs.YtpiookgkkaafeaaDoor
open Go.RowKit
open Seal
open Bson (Val)
end Go.Proofs.YtpiookgkkaafeaaDoor
end
section
namespace Go.Proofs.YtpiookgkkaafeaaDoor
open Go.RowKit
open Seal
open Path
open Bson (Val)
namespace Path
end Path
end Go.Proofs.YtpiookgkkaafeaaDoor
end
section
namespace Go.Proofs.YtpiookgkkaafeaaDoor
open Go.RowKit
open Seal
open Path
end Go.Proofs.YtpiookgkkaafeaaDoor
end
section
namespace Go.Proofs.YtpiookgkkaafeaaDoor
open Go.RowKit
open Seal
open Path
namespace Path
end Path
end Go.Proofs.YtpiookgkkaafeaaDoor
end
section
namespace Go.Proofs.YtpiookgkkaafeaaDoor
open Go.RowKit
open Seal
open Path
namespace Path
theorem app_list (a b : ByteArray) : (a ++ b).data.toList = a.data.toList ++ b.data.toList := by simp
end Path
end Go.Proofs.YtpiookgkkaafeaaDoor
end
section
namespace Go.Proofs.YtpiookgkkaafeaaDoor
open Go.RowKit
open Seal
open Bson (Val)
/-- Bytes, as many as the slice says, in blocks that Q names. -/
def BytesAt (w : World) (Q : Nat → Prop) (v : Value) (n : Nat) : Prop := ∃ a c l, v = .slice a n c ∧ l.length = n ∧ Oct l ∧ BytesIn w Q a l
theorem owns_bytes {w : World} {base : Nat} {v : Value} {n : Nat} {l : List Nat} (h : w.ownsRow base 5 1 v n (u8s l)) (ho : Oct l) : BytesAt w (fun g => base ≤ g) v n := by
  obtain ⟨hxl, ⟨rfl, hn⟩ | ⟨g, cap, cur, rfl, hbg, hrow, hc, hm, hsz, htake⟩⟩ := h
  · subst hn
    have : l = [] := List.eq_nil_of_length_eq_zero (by simpa [u8s] using hxl)
    subst this
    exact ⟨none, 0, [], rfl, rfl, ho, .inl rfl⟩
  · have hl : l.length = n := by simpa [u8s] using hxl
    refine ⟨some ⟨g, 0, none⟩, cap, l, rfl, hl, ho, .inr ⟨g, 0, rfl, hbg, fun j hj => ?_⟩⟩
    rw [Nat.zero_add, cell_of_row w g j _ _ _ hrow, ← Array.getElem?_toList]
    have e : cur.toList[j]? = (u8s l)[j]? := by rw [← htake, List.getElem?_take_of_lt (by omega)]
    rw [e]
    simp [u8s, Go.Proofs.YtpiookgkkaafeaaDoor.u8, List.getElem?_eq_getElem hj, List.getD_eq_getElem?_getD]
end Go.Proofs.YtpiookgkkaafeaaDoor
end
section
namespace Go.Proofs.YtpiookgkkaafeaaDoor
open Go.RowKit
open Seal
open Bson (Val)
theorem bare_of (x : Val) {xn : Int} {xs : ByteArray} {bn fn ln : Nat} (h1 : xn = x.n) (h2 : xs = x.s) (h3 : bn = x.b.length) (h4 : fn = x.f.length) (h5 : ln = x.l.length) (n s b f l : Bool) :
    Bson.bare x n s b f l = ((n || xn == 0) && (s || xs.size == 0) && (b || bn == 0) && (f || fn == 0) && (l || ln == 0)) := by
  have e : ∀ {α : Type} (q : List α), q.isEmpty = (q.length == 0) := fun q => by cases q <;> rfl
  unfold Bson.bare
  rw [e, e, e, ← h1, ← h2, ← h3, ← h4, ← h5]
set_option maxRecDepth 100000 in
set_option maxHeartbeats 4000000 in
theorem bare_some0 (Q : Nat → Prop) (h : Nat) (x : Val) (v : Value) (w : World) (hv : VIn w Q h x v) : Calls Tryd.prog 57 #[v, .bool false, .bool false, .bool false, .bool false, .bool false] w fun e w' => e = .returned (.bool (Bson.bare x false false false false false)) ∧ Below w.heap.size w w' := by
  cases h with
  | zero => exact hv.elim
  | succ h =>
    obtain ⟨xk, xn, xs, ba, fa, la, bn, bc, fn, fc, ln, lc, rfl, hxk, hxn, hxs, hbn, hfn, hln, hL, hF, hI⟩ := hv.letters
    have HE := Lib.hid (And.intro hxn (And.intro hxs (And.intro hbn (And.intro hfn hln))))
    clear hL hF hI hxk hxn hxs hbn hfn hln hv
    have HB : Hid (Below w.heap.size w (w.alloc (.cells #[.int .i64 xk, .int .i64 xn, .string xs, .slice ba bn bc, .slice fa fn fc, .slice la ln lc] 27))) := (Below.refl _ w).alloc (Nat.le_refl _) _
    by_cases hn : xn = 0
    case neg =>
      have hb : (xn == 0) = false := by rw [beq_eq_false_iff_ne]; exact hn
      have HRES : Hid (Bson.bare x false false false false false = false) := by show Bson.bare x false false false false false = false; rw [bare_of x HE.out.1 HE.out.2.1 HE.out.2.2.1 HE.out.2.2.2.1 HE.out.2.2.2.2]; simp [hn]
      go_enter Tryd.func57, Tryd.ntmps57
      go_wp2_with fail
      go_ret
      exact ⟨by rw [HRES.out]; rfl, HB.out⟩
    subst hn
    by_cases hs : xs.size = 0
    case neg =>
      obtain ⟨h1, h2, h3⟩ := Path.filled xs hs
      have HRES : Hid (Bson.bare x false false false false false = false) := by show Bson.bare x false false false false false = false; rw [bare_of x HE.out.1 HE.out.2.1 HE.out.2.2.1 HE.out.2.2.2.1 HE.out.2.2.2.2]; simp [hs]
      go_enter Tryd.func57, Tryd.ntmps57
      go_wp2_with fail
      go_ret
      exact ⟨by rw [HRES.out]; rfl, HB.out⟩
    obtain rfl := (empty_iff xs).2 hs
    by_cases hbz : bn = 0
    case neg =>
      have hb : ((bn : Int) == 0) = false := by rw [beq_eq_false_iff_ne]; omega
      have HRES : Hid (Bson.bare x false false false false false = false) := by show Bson.bare x false false false false false = false; rw [bare_of x HE.out.1 HE.out.2.1 HE.out.2.2.1 HE.out.2.2.2.1 HE.out.2.2.2.2]; simp [hbz]
      go_enter Tryd.func57, Tryd.ntmps57
      go_wp2_with fail
      go_ret
      exact ⟨by rw [HRES.out]; rfl, HB.out⟩
    subst hbz
    by_cases hfz : fn = 0
    case neg =>
      have hb : ((fn : Int) == 0) = false := by rw [beq_eq_false_iff_ne]; omega
      have HRES : Hid (Bson.bare x false false false false false = false) := by show Bson.bare x false false false false false = false; rw [bare_of x HE.out.1 HE.out.2.1 HE.out.2.2.1 HE.out.2.2.2.1 HE.out.2.2.2.2]; simp [hfz]
      go_enter Tryd.func57, Tryd.ntmps57
      go_wp2_with fail
      go_ret
      exact ⟨by rw [HRES.out]; rfl, HB.out⟩
    subst hfz
    by_cases hlz : ln = 0
    case neg =>
      have hb : ((ln : Int) == 0) = false := by rw [beq_eq_false_iff_ne]; omega
      have HRES : Hid (Bson.bare x false false false false false = false) := by show Bson.bare x false false false false false = false; rw [bare_of x HE.out.1 HE.out.2.1 HE.out.2.2.1 HE.out.2.2.2.1 HE.out.2.2.2.2]; simp [hlz]
      go_enter Tryd.func57, Tryd.ntmps57
      go_wp2_with fail
      go_ret
      exact ⟨by rw [HRES.out]; rfl, HB.out⟩
    subst hlz
    have HRES : Hid (Bson.bare x false false false false false = true) := by show Bson.bare x false false false false false = true; rw [bare_of x HE.out.1 HE.out.2.1 HE.out.2.2.1 HE.out.2.2.2.1 HE.out.2.2.2.2]; simp [show (⟨#[]⟩ : ByteArray).size = 0 from rfl]
    go_enter Tryd.func57, Tryd.ntmps57
    go_wp2_with fail
    go_ret
    exact ⟨by rw [HRES.out]; rfl, HB.out⟩
set_option maxRecDepth 100000 in
set_option maxHeartbeats 4000000 in
theorem bare_some1 (Q : Nat → Prop) (h : Nat) (x : Val) (v : Value) (w : World) (hv : VIn w Q h x v) : Calls Tryd.prog 57 #[v, .bool true, .bool false, .bool false, .bool false, .bool false] w fun e w' => e = .returned (.bool (Bson.bare x true false false false false)) ∧ Below w.heap.size w w' := by
  cases h with
  | zero => exact hv.elim
  | succ h =>
    obtain ⟨xk, xn, xs, ba, fa, la, bn, bc, fn, fc, ln, lc, rfl, hxk, hxn, hxs, hbn, hfn, hln, hL, hF, hI⟩ := hv.letters
    have HE := Lib.hid (And.intro hxn (And.intro hxs (And.intro hbn (And.intro hfn hln))))
    clear hL hF hI hxk hxn hxs hbn hfn hln hv
    have HB : Hid (Below w.heap.size w (w.alloc (.cells #[.int .i64 xk, .int .i64 xn, .string xs, .slice ba bn bc, .slice fa fn fc, .slice la ln lc] 27))) := (Below.refl _ w).alloc (Nat.le_refl _) _
    by_cases hs : xs.size = 0
    case neg =>
      obtain ⟨h1, h2, h3⟩ := Path.filled xs hs
      have HRES : Hid (Bson.bare x true false false false false = false) := by show Bson.bare x true false false false false = false; rw [bare_of x HE.out.1 HE.out.2.1 HE.out.2.2.1 HE.out.2.2.2.1 HE.out.2.2.2.2]; simp [hs]
      go_enter Tryd.func57, Tryd.ntmps57
      go_wp2_with fail
      go_ret
      exact ⟨by rw [HRES.out]; rfl, HB.out⟩
    obtain rfl := (empty_iff xs).2 hs
    by_cases hbz : bn = 0
    case neg =>
      have hb : ((bn : Int) == 0) = false := by rw [beq_eq_false_iff_ne]; omega
      have HRES : Hid (Bson.bare x true false false false false = false) := by show Bson.bare x true false false false false = false; rw [bare_of x HE.out.1 HE.out.2.1 HE.out.2.2.1 HE.out.2.2.2.1 HE.out.2.2.2.2]; simp [hbz]
      go_enter Tryd.func57, Tryd.ntmps57
      go_wp2_with fail
      go_ret
      exact ⟨by rw [HRES.out]; rfl, HB.out⟩
    subst hbz
    by_cases hfz : fn = 0
    case neg =>
      have hb : ((fn : Int) == 0) = false := by rw [beq_eq_false_iff_ne]; omega
      have HRES : Hid (Bson.bare x true false false false false = false) := by show Bson.bare x true false false false false = false; rw [bare_of x HE.out.1 HE.out.2.1 HE.out.2.2.1 HE.out.2.2.2.1 HE.out.2.2.2.2]; simp [hfz]
      go_enter Tryd.func57, Tryd.ntmps57
      go_wp2_with fail
      go_ret
      exact ⟨by rw [HRES.out]; rfl, HB.out⟩
    subst hfz
    by_cases hlz : ln = 0
    case neg =>
      have hb : ((ln : Int) == 0) = false := by rw [beq_eq_false_iff_ne]; omega
      have HRES : Hid (Bson.bare x true false false false false = false) := by show Bson.bare x true false false false false = false; rw [bare_of x HE.out.1 HE.out.2.1 HE.out.2.2.1 HE.out.2.2.2.1 HE.out.2.2.2.2]; simp [hlz]
      go_enter Tryd.func57, Tryd.ntmps57
      go_wp2_with fail
      go_ret
      exact ⟨by rw [HRES.out]; rfl, HB.out⟩
    subst hlz
    have HRES : Hid (Bson.bare x true false false false false = true) := by show Bson.bare x true false false false false = true; rw [bare_of x HE.out.1 HE.out.2.1 HE.out.2.2.1 HE.out.2.2.2.1 HE.out.2.2.2.2]; simp [show (⟨#[]⟩ : ByteArray).size = 0 from rfl]
    go_enter Tryd.func57, Tryd.ntmps57
    go_wp2_with fail
    go_ret
    exact ⟨by rw [HRES.out]; rfl, HB.out⟩
set_option maxRecDepth 100000 in
set_option maxHeartbeats 4000000 in
theorem bare_some2 (Q : Nat → Prop) (h : Nat) (x : Val) (v : Value) (w : World) (hv : VIn w Q h x v) : Calls Tryd.prog 57 #[v, .bool false, .bool true, .bool false, .bool false, .bool false] w fun e w' => e = .returned (.bool (Bson.bare x false true false false false)) ∧ Below w.heap.size w w' := by
  cases h with
  | zero => exact hv.elim
  | succ h =>
    obtain ⟨xk, xn, xs, ba, fa, la, bn, bc, fn, fc, ln, lc, rfl, hxk, hxn, hxs, hbn, hfn, hln, hL, hF, hI⟩ := hv.letters
    have HE := Lib.hid (And.intro hxn (And.intro hxs (And.intro hbn (And.intro hfn hln))))
    clear hL hF hI hxk hxn hxs hbn hfn hln hv
    have HB : Hid (Below w.heap.size w (w.alloc (.cells #[.int .i64 xk, .int .i64 xn, .string xs, .slice ba bn bc, .slice fa fn fc, .slice la ln lc] 27))) := (Below.refl _ w).alloc (Nat.le_refl _) _
    by_cases hn : xn = 0
    case neg =>
      have hb : (xn == 0) = false := by rw [beq_eq_false_iff_ne]; exact hn
      have HRES : Hid (Bson.bare x false true false false false = false) := by show Bson.bare x false true false false false = false; rw [bare_of x HE.out.1 HE.out.2.1 HE.out.2.2.1 HE.out.2.2.2.1 HE.out.2.2.2.2]; simp [hn]
      go_enter Tryd.func57, Tryd.ntmps57
      go_wp2_with fail
      go_ret
      exact ⟨by rw [HRES.out]; rfl, HB.out⟩
    subst hn
    by_cases hbz : bn = 0
    case neg =>
      have hb : ((bn : Int) == 0) = false := by rw [beq_eq_false_iff_ne]; omega
      have HRES : Hid (Bson.bare x false true false false false = false) := by show Bson.bare x false true false false false = false; rw [bare_of x HE.out.1 HE.out.2.1 HE.out.2.2.1 HE.out.2.2.2.1 HE.out.2.2.2.2]; simp [hbz]
      go_enter Tryd.func57, Tryd.ntmps57
      go_wp2_with fail
      go_ret
      exact ⟨by rw [HRES.out]; rfl, HB.out⟩
    subst hbz
    by_cases hfz : fn = 0
    case neg =>
      have hb : ((fn : Int) == 0) = false := by rw [beq_eq_false_iff_ne]; omega
      have HRES : Hid (Bson.bare x false true false false false = false) := by show Bson.bare x false true false false false = false; rw [bare_of x HE.out.1 HE.out.2.1 HE.out.2.2.1 HE.out.2.2.2.1 HE.out.2.2.2.2]; simp [hfz]
      go_enter Tryd.func57, Tryd.ntmps57
      go_wp2_with fail
      go_ret
      exact ⟨by rw [HRES.out]; rfl, HB.out⟩
    subst hfz
    by_cases hlz : ln = 0
    case neg =>
      have hb : ((ln : Int) == 0) = false := by rw [beq_eq_false_iff_ne]; omega
      have HRES : Hid (Bson.bare x false true false false false = false) := by show Bson.bare x false true false false false = false; rw [bare_of x HE.out.1 HE.out.2.1 HE.out.2.2.1 HE.out.2.2.2.1 HE.out.2.2.2.2]; simp [hlz]
      go_enter Tryd.func57, Tryd.ntmps57
      go_wp2_with fail
      go_ret
      exact ⟨by rw [HRES.out]; rfl, HB.out⟩
    subst hlz
    have HRES : Hid (Bson.bare x false true false false false = true) := by show Bson.bare x false true false false false = true; rw [bare_of x HE.out.1 HE.out.2.1 HE.out.2.2.1 HE.out.2.2.2.1 HE.out.2.2.2.2]; simp
    go_enter Tryd.func57, Tryd.ntmps57
    go_wp2_with fail
    go_ret
    exact ⟨by rw [HRES.out]; rfl, HB.out⟩
set_option maxRecDepth 100000 in
set_option maxHeartbeats 4000000 in
theorem bare_some3 (Q : Nat → Prop) (h : Nat) (x : Val) (v : Value) (w : World) (hv : VIn w Q h x v) : Calls Tryd.prog 57 #[v, .bool false, .bool false, .bool true, .bool false, .bool false] w fun e w' => e = .returned (.bool (Bson.bare x false false true false false)) ∧ Below w.heap.size w w' := by
  cases h with
  | zero => exact hv.elim
  | succ h =>
    obtain ⟨xk, xn, xs, ba, fa, la, bn, bc, fn, fc, ln, lc, rfl, hxk, hxn, hxs, hbn, hfn, hln, hL, hF, hI⟩ := hv.letters
    have HE := Lib.hid (And.intro hxn (And.intro hxs (And.intro hbn (And.intro hfn hln))))
    clear hL hF hI hxk hxn hxs hbn hfn hln hv
    have HB : Hid (Below w.heap.size w (w.alloc (.cells #[.int .i64 xk, .int .i64 xn, .string xs, .slice ba bn bc, .slice fa fn fc, .slice la ln lc] 27))) := (Below.refl _ w).alloc (Nat.le_refl _) _
    by_cases hn : xn = 0
    case neg =>
      have hb : (xn == 0) = false := by rw [beq_eq_false_iff_ne]; exact hn
      have HRES : Hid (Bson.bare x false false true false false = false) := by show Bson.bare x false false true false false = false; rw [bare_of x HE.out.1 HE.out.2.1 HE.out.2.2.1 HE.out.2.2.2.1 HE.out.2.2.2.2]; simp [hn]
      go_enter Tryd.func57, Tryd.ntmps57
      go_wp2_with fail
      go_ret
      exact ⟨by rw [HRES.out]; rfl, HB.out⟩
    subst hn
    by_cases hs : xs.size = 0
    case neg =>
      obtain ⟨h1, h2, h3⟩ := Path.filled xs hs
      have HRES : Hid (Bson.bare x false false true false false = false) := by show Bson.bare x false false true false false = false; rw [bare_of x HE.out.1 HE.out.2.1 HE.out.2.2.1 HE.out.2.2.2.1 HE.out.2.2.2.2]; simp [hs]
      go_enter Tryd.func57, Tryd.ntmps57
      go_wp2_with fail
      go_ret
      exact ⟨by rw [HRES.out]; rfl, HB.out⟩
    obtain rfl := (empty_iff xs).2 hs
    by_cases hfz : fn = 0
    case neg =>
      have hb : ((fn : Int) == 0) = false := by rw [beq_eq_false_iff_ne]; omega
      have HRES : Hid (Bson.bare x false false true false false = false) := by show Bson.bare x false false true false false = false; rw [bare_of x HE.out.1 HE.out.2.1 HE.out.2.2.1 HE.out.2.2.2.1 HE.out.2.2.2.2]; simp [hfz]
      go_enter Tryd.func57, Tryd.ntmps57
      go_wp2_with fail
      go_ret
      exact ⟨by rw [HRES.out]; rfl, HB.out⟩
    subst hfz
    by_cases hlz : ln = 0
    case neg =>
      have hb : ((ln : Int) == 0) = false := by rw [beq_eq_false_iff_ne]; omega
      have HRES : Hid (Bson.bare x false false true false false = false) := by show Bson.bare x false false true false false = false; rw [bare_of x HE.out.1 HE.out.2.1 HE.out.2.2.1 HE.out.2.2.2.1 HE.out.2.2.2.2]; simp [hlz]
      go_enter Tryd.func57, Tryd.ntmps57
      go_wp2_with fail
      go_ret
      exact ⟨by rw [HRES.out]; rfl, HB.out⟩
    subst hlz
    have HRES : Hid (Bson.bare x false false true false false = true) := by show Bson.bare x false false true false false = true; rw [bare_of x HE.out.1 HE.out.2.1 HE.out.2.2.1 HE.out.2.2.2.1 HE.out.2.2.2.2]; simp [show (⟨#[]⟩ : ByteArray).size = 0 from rfl]
    go_enter Tryd.func57, Tryd.ntmps57
    go_wp2_with fail
    go_ret
    exact ⟨by rw [HRES.out]; rfl, HB.out⟩
set_option maxRecDepth 100000 in
set_option maxHeartbeats 4000000 in
theorem bare_some4 (Q : Nat → Prop) (h : Nat) (x : Val) (v : Value) (w : World) (hv : VIn w Q h x v) : Calls Tryd.prog 57 #[v, .bool false, .bool false, .bool false, .bool true, .bool false] w fun e w' => e = .returned (.bool (Bson.bare x false false false true false)) ∧ Below w.heap.size w w' := by
  cases h with
  | zero => exact hv.elim
  | succ h =>
    obtain ⟨xk, xn, xs, ba, fa, la, bn, bc, fn, fc, ln, lc, rfl, hxk, hxn, hxs, hbn, hfn, hln, hL, hF, hI⟩ := hv.letters
    have HE := Lib.hid (And.intro hxn (And.intro hxs (And.intro hbn (And.intro hfn hln))))
    clear hL hF hI hxk hxn hxs hbn hfn hln hv
    have HB : Hid (Below w.heap.size w (w.alloc (.cells #[.int .i64 xk, .int .i64 xn, .string xs, .slice ba bn bc, .slice fa fn fc, .slice la ln lc] 27))) := (Below.refl _ w).alloc (Nat.le_refl _) _
    by_cases hn : xn = 0
    case neg =>
      have hb : (xn == 0) = false := by rw [beq_eq_false_iff_ne]; exact hn
      have HRES : Hid (Bson.bare x false false false true false = false) := by show Bson.bare x false false false true false = false; rw [bare_of x HE.out.1 HE.out.2.1 HE.out.2.2.1 HE.out.2.2.2.1 HE.out.2.2.2.2]; simp [hn]
      go_enter Tryd.func57, Tryd.ntmps57
      go_wp2_with fail
      go_ret
      exact ⟨by rw [HRES.out]; rfl, HB.out⟩
    subst hn
    by_cases hs : xs.size = 0
    case neg =>
      obtain ⟨h1, h2, h3⟩ := Path.filled xs hs
      have HRES : Hid (Bson.bare x false false false true false = false) := by show Bson.bare x false false false true false = false; rw [bare_of x HE.out.1 HE.out.2.1 HE.out.2.2.1 HE.out.2.2.2.1 HE.out.2.2.2.2]; simp [hs]
      go_enter Tryd.func57, Tryd.ntmps57
      go_wp2_with fail
      go_ret
      exact ⟨by rw [HRES.out]; rfl, HB.out⟩
    obtain rfl := (empty_iff xs).2 hs
    by_cases hbz : bn = 0
    case neg =>
      have hb : ((bn : Int) == 0) = false := by rw [beq_eq_false_iff_ne]; omega
      have HRES : Hid (Bson.bare x false false false true false = false) := by show Bson.bare x false false false true false = false; rw [bare_of x HE.out.1 HE.out.2.1 HE.out.2.2.1 HE.out.2.2.2.1 HE.out.2.2.2.2]; simp [hbz]
      go_enter Tryd.func57, Tryd.ntmps57
      go_wp2_with fail
      go_ret
      exact ⟨by rw [HRES.out]; rfl, HB.out⟩
    subst hbz
    by_cases hlz : ln = 0
    case neg =>
      have hb : ((ln : Int) == 0) = false := by rw [beq_eq_false_iff_ne]; omega
      have HRES : Hid (Bson.bare x false false false true false = false) := by show Bson.bare x false false false true false = false; rw [bare_of x HE.out.1 HE.out.2.1 HE.out.2.2.1 HE.out.2.2.2.1 HE.out.2.2.2.2]; simp [hlz]
      go_enter Tryd.func57, Tryd.ntmps57
      go_wp2_with fail
      go_ret
      exact ⟨by rw [HRES.out]; rfl, HB.out⟩
    subst hlz
    have HRES : Hid (Bson.bare x false false false true false = true) := by show Bson.bare x false false false true false = true; rw [bare_of x HE.out.1 HE.out.2.1 HE.out.2.2.1 HE.out.2.2.2.1 HE.out.2.2.2.2]; simp [show (⟨#[]⟩ : ByteArray).size = 0 from rfl]
    go_enter Tryd.func57, Tryd.ntmps57
    go_wp2_with fail
    go_ret
    exact ⟨by rw [HRES.out]; rfl, HB.out⟩
set_option maxRecDepth 100000 in
set_option maxHeartbeats 4000000 in
theorem bare_some5 (Q : Nat → Prop) (h : Nat) (x : Val) (v : Value) (w : World) (hv : VIn w Q h x v) : Calls Tryd.prog 57 #[v, .bool false, .bool false, .bool false, .bool false, .bool true] w fun e w' => e = .returned (.bool (Bson.bare x false false false false true)) ∧ Below w.heap.size w w' := by
  cases h with
  | zero => exact hv.elim
  | succ h =>
    obtain ⟨xk, xn, xs, ba, fa, la, bn, bc, fn, fc, ln, lc, rfl, hxk, hxn, hxs, hbn, hfn, hln, hL, hF, hI⟩ := hv.letters
    have HE := Lib.hid (And.intro hxn (And.intro hxs (And.intro hbn (And.intro hfn hln))))
    clear hL hF hI hxk hxn hxs hbn hfn hln hv
    have HB : Hid (Below w.heap.size w (w.alloc (.cells #[.int .i64 xk, .int .i64 xn, .string xs, .slice ba bn bc, .slice fa fn fc, .slice la ln lc] 27))) := (Below.refl _ w).alloc (Nat.le_refl _) _
    by_cases hn : xn = 0
    case neg =>
      have hb : (xn == 0) = false := by rw [beq_eq_false_iff_ne]; exact hn
      have HRES : Hid (Bson.bare x false false false false true = false) := by show Bson.bare x false false false false true = false; rw [bare_of x HE.out.1 HE.out.2.1 HE.out.2.2.1 HE.out.2.2.2.1 HE.out.2.2.2.2]; simp [hn]
      go_enter Tryd.func57, Tryd.ntmps57
      go_wp2_with fail
      go_ret
      exact ⟨by rw [HRES.out]; rfl, HB.out⟩
    subst hn
    by_cases hs : xs.size = 0
    case neg =>
      obtain ⟨h1, h2, h3⟩ := Path.filled xs hs
      have HRES : Hid (Bson.bare x false false false false true = false) := by show Bson.bare x false false false false true = false; rw [bare_of x HE.out.1 HE.out.2.1 HE.out.2.2.1 HE.out.2.2.2.1 HE.out.2.2.2.2]; simp [hs]
      go_enter Tryd.func57, Tryd.ntmps57
      go_wp2_with fail
      go_ret
      exact ⟨by rw [HRES.out]; rfl, HB.out⟩
    obtain rfl := (empty_iff xs).2 hs
    by_cases hbz : bn = 0
    case neg =>
      have hb : ((bn : Int) == 0) = false := by rw [beq_eq_false_iff_ne]; omega
      have HRES : Hid (Bson.bare x false false false false true = false) := by show Bson.bare x false false false false true = false; rw [bare_of x HE.out.1 HE.out.2.1 HE.out.2.2.1 HE.out.2.2.2.1 HE.out.2.2.2.2]; simp [hbz]
      go_enter Tryd.func57, Tryd.ntmps57
      go_wp2_with fail
      go_ret
      exact ⟨by rw [HRES.out]; rfl, HB.out⟩
    subst hbz
    by_cases hfz : fn = 0
    case neg =>
      have hb : ((fn : Int) == 0) = false := by rw [beq_eq_false_iff_ne]; omega
      have HRES : Hid (Bson.bare x false false false false true = false) := by show Bson.bare x false false false false true = false; rw [bare_of x HE.out.1 HE.out.2.1 HE.out.2.2.1 HE.out.2.2.2.1 HE.out.2.2.2.2]; simp [hfz]
      go_enter Tryd.func57, Tryd.ntmps57
      go_wp2_with fail
      go_ret
      exact ⟨by rw [HRES.out]; rfl, HB.out⟩
    subst hfz
    have HRES : Hid (Bson.bare x false false false false true = true) := by show Bson.bare x false false false false true = true; rw [bare_of x HE.out.1 HE.out.2.1 HE.out.2.2.1 HE.out.2.2.2.1 HE.out.2.2.2.2]; simp [show (⟨#[]⟩ : ByteArray).size = 0 from rfl]
    go_enter Tryd.func57, Tryd.ntmps57
    go_wp2_with fail
    go_ret
    exact ⟨by rw [HRES.out]; rfl, HB.out⟩
end Go.Proofs.YtpiookgkkaafeaaDoor
end
section
namespace Go.Proofs.YtpiookgkkaafeaaDoor
open Go.RowKit
open Seal
open Bson (Val)
theorem BytesAt.keep {w w' : World} {Q : Nat → Prop} {v : Value} {n : Nat} (h : BytesAt w Q v n) (hb : Below w.heap.size w w') : BytesAt w' Q v n := by
  obtain ⟨a, c, l, e, h1, h2, h3⟩ := h
  refine ⟨a, c, l, e, h1, h2, ?_⟩
  rcases h3 with h3 | ⟨g, o, e2, hq, hr⟩
  · exact .inl h3
  · exact .inr ⟨g, o, e2, hq, fun j hj => cell_keep hb (hr j hj)⟩
theorem BytesAt.mono {w : World} {Q Q' : Nat → Prop} {v : Value} {n : Nat} (h : BytesAt w Q v n) (hq : ∀ g, Q g → Q' g) : BytesAt w Q' v n := by
  obtain ⟨a, c, l, e, h1, h2, h3⟩ := h
  refine ⟨a, c, l, e, h1, h2, ?_⟩
  rcases h3 with h3 | ⟨g, o, e2, hg, hr⟩
  · exact .inl h3
  · exact .inr ⟨g, o, e2, hq g hg, hr⟩
theorem BytesAt.none (w : World) (Q : Nat → Prop) : BytesAt w Q (.slice none 0 0) 0 := ⟨Option.none, 0, [], rfl, rfl, fun c hc => (by cases hc), Or.inl rfl⟩
end Go.Proofs.YtpiookgkkaafeaaDoor
end
section
namespace Go.Proofs.YtpiookgkkaafeaaDoor
open Go.RowKit
open Seal
open Bson (Val)
set_option maxRecDepth 100000 in
set_option maxHeartbeats 2000000 in
theorem own_other (Q : Nat → Prop) (h : Nat) (x : Val) (u : Value) (w : World) (d : Int) (hk : ∀ c : Int, 1 ≤ c → c ≤ 12 → x.kind ≠ c) (hv : VIn w Q (h + 1) x u) :
    Calls Tryd.prog 29 #[u, .int .i64 d] w fun e w' => ∃ v n, e = .returned (.tuple #[v, .bool false]) ∧ BytesAt w' (fun g => Q g ∨ w.heap.size ≤ g) v n ∧ Below w.heap.size w w' := by
  obtain ⟨xk, xn, xs, ba, fa, la, bn, bc, fn, fc, ln, lc, rfl, hxk, hxn, hxs, hbn, hfn, hln, hL, hF, hI⟩ := hv.letters
  have d1 : (xk == 1) = false := by rw [beq_eq_false_iff_ne, hxk]; exact hk 1 (by decide) (by decide)
  have d2 : (xk == 2) = false := by rw [beq_eq_false_iff_ne, hxk]; exact hk 2 (by decide) (by decide)
  have d3 : (xk == 3) = false := by rw [beq_eq_false_iff_ne, hxk]; exact hk 3 (by decide) (by decide)
  have d4 : (xk == 4) = false := by rw [beq_eq_false_iff_ne, hxk]; exact hk 4 (by decide) (by decide)
  have d5 : (xk == 5) = false := by rw [beq_eq_false_iff_ne, hxk]; exact hk 5 (by decide) (by decide)
  have d6 : (xk == 6) = false := by rw [beq_eq_false_iff_ne, hxk]; exact hk 6 (by decide) (by decide)
  have d7 : (xk == 7) = false := by rw [beq_eq_false_iff_ne, hxk]; exact hk 7 (by decide) (by decide)
  have d8 : (xk == 8) = false := by rw [beq_eq_false_iff_ne, hxk]; exact hk 8 (by decide) (by decide)
  have d9 : (xk == 9) = false := by rw [beq_eq_false_iff_ne, hxk]; exact hk 9 (by decide) (by decide)
  have d10 : (xk == 10) = false := by rw [beq_eq_false_iff_ne, hxk]; exact hk 10 (by decide) (by decide)
  have d11 : (xk == 11) = false := by rw [beq_eq_false_iff_ne, hxk]; exact hk 11 (by decide) (by decide)
  have d12 : (xk == 12) = false := by rw [beq_eq_false_iff_ne, hxk]; exact hk 12 (by decide) (by decide)
  have HV0 : Hid (VIn (w.alloc (.cells #[.int .i64 xk, .int .i64 xn, .string xs, .slice ba bn bc, .slice fa fn fc, .slice la ln lc] 27)) Q (h + 1) x (.agg #[.int .i64 xk, .int .i64 xn, .string xs, .slice ba bn bc, .slice fa fn fc, .slice la ln lc])) := VIn.keep ((Below.refl _ w).alloc (Nat.le_refl _) _) hv
  have HB0 : Hid (Below w.heap.size w (w.alloc (.cells #[.int .i64 xk, .int .i64 xn, .string xs, .slice ba bn bc, .slice fa fn fc, .slice la ln lc] 27))) := (Below.refl _ w).alloc (Nat.le_refl _) _
  have hS := SixIs.new w (.int .i64 xk) (.int .i64 xn) (.string xs) (.slice ba bn bc) (.slice fa fn fc) (.slice la ln lc) 27
  have HS0 := Lib.hid hS
  clear hv hxk hk hS hxn hxs hbn hfn hln hL hF hI
  generalize hW : w.alloc (.cells #[.int .i64 xk, .int .i64 xn, .string xs, .slice ba bn bc, .slice fa fn fc, .slice la ln lc] 27) = W0 at *
  obtain ⟨e0, e1, e2, e3, e4, e5⟩ := HS0.out
  have hf : W0.cell? ⟨w.heap.size, 0, none⟩ = some (.int .i64 xk) ∧ W0.cell? ⟨w.heap.size, 1, none⟩ = some (.int .i64 xn) ∧ W0.cell? ⟨w.heap.size, 2, none⟩ = some (.string xs) ∧ W0.cell? ⟨w.heap.size, 3, none⟩ = some (.slice ba bn bc) ∧ W0.cell? ⟨w.heap.size, 4, none⟩ = some (.slice fa fn fc) ∧ W0.cell? ⟨w.heap.size, 5, none⟩ = some (.slice la ln lc) := HS0.out
  have HD : Hid (Below W0.heap.size W0 W0.drew) := (Below.refl _ W0).drew
  go_enter Tryd.func29, Tryd.ntmps29
  go_wp2_with fail
  refine bodyPost_ret (v := .tuple #[.slice none 0 0, .bool false]) (by simp [results, Tryd.results29, go_sem]) rfl ?_
  exact ⟨_, 0, rfl, BytesAt.none _ _, HB0.out⟩
end Go.Proofs.YtpiookgkkaafeaaDoor
end
section
namespace Go.Proofs.YtpiookgkkaafeaaDoor
open Go.RowKit
open Seal
open Bson (Val)
section
variable {P : Program}
theorem step_append_str {ops : Array Oper} {o : Oper} {a : Act} {w : World} {K : Act → World → Prop} {Q : Exit → Act → World → Prop} {E : Prop}
    (hg : o.guard = none) (sl x : Operand) (t u : TypeId) (ho : o.op = .call { callee := .builtin .append, args := #[sl, x], argTypes := #[t, u] })
    (base : Nat) (e : TypeId) (i : TypeInfo) (ht : P.underlying t = some (.slice e)) (hu : P.underlying u = some .string) (hi : P.info? e = some i) (hz : i.zero = some (.int .u8 0))
    (hsize : i.size = 1) (hby : i.bytes = 1) (v : Value) (n : Nat) (xs : List Value) (hs : a.eval sl = v) (hown : w.ownsRow base e 1 v n xs) (s : ByteArray) (hx : a.eval x = .string s)
    (h63 : n + s.size ≤ maxLen) (hbytes : n + s.size ≤ 140737488355328) (hbase : base ≤ w.heap.size)
    (h : ∀ v' w', w'.ownsRow base e 1 v' (n + s.size) (xs ++ Lib.strCells s) → w.grownBy w' v.ownBlock → K (a.put o.dst v') w') :
    if Region.wanted o (yielded ops a.tmps) = true then Oper.wp P o a w K Q else E := by
  have hw : Region.wanted o (yielded ops a.tmps) = true := by simp [Region.wanted, hg]
  rw [if_pos hw]
  obtain ⟨v', w', hr, h2, h3, _⟩ := Lib.run_append_own_string (P := P) w base t u o.type e i ht hu hi hz hsize hby v n xs hown s h63 hbytes hbase
  unfold Oper.wp execOp
  simp only [ho, resolve, invoke, builtin, Sem.run_bind, Sem.run_pure, Result.andThen_ok, List.map_toArray, List.map_cons, List.map_nil, hs, hx, hr]
  exact h v' w' h2 h3
theorem step_append_src {ops : Array Oper} {o : Oper} {a : Act} {w : World} {K : Act → World → Prop} {Q : Exit → Act → World → Prop} {E : Prop}
    (hg : o.guard = none) (s x : Operand) (t : TypeId) (ho : o.op = .call { callee := .builtin .append, args := #[s, x], argTypes := #[t, t] })
    (base : Nat) (e : TypeId) (i : TypeInfo) (z : Value) (size bytes : Nat) (ht : P.underlying t = some (.slice e)) (hi : P.info? e = some i) (hz : i.zero = some z)
    (hsize : i.size = size) (hby : i.bytes = bytes) (hzs : z.cells.size = size) (hsz : 0 < size) (v : Value) (n : Nat) (xs : List Value) (hs : a.eval s = v) (hown : w.ownsRow base e size v n xs)
    (ad : Option Addr) (m c : Nat) (news : List Value) (hx : a.eval x = .slice ad m c) (hsrc : Src w ad m news) (hl : news.length = m * size) (h1 : ∀ u ∈ news, u.oneCell' = true)
    (h63 : n + m ≤ maxLen) (hbytes : (n + m) * bytes ≤ 140737488355328) (hbase : base ≤ w.heap.size)
    (h : ∀ v' w', w'.ownsRow base e size v' (n + m) (xs ++ news) → w.grownBy w' v.ownBlock → K (a.put o.dst v') w') :
    if Region.wanted o (yielded ops a.tmps) = true then Oper.wp P o a w K Q else E := by
  have hw : Region.wanted o (yielded ops a.tmps) = true := by simp [Region.wanted, hg]
  rw [if_pos hw]
  obtain ⟨v', w', hr, h2, h3⟩ := run_src (P := P) w base t o.type e i z size bytes ht hi hz hsize hby hzs hsz v n xs hown ad m c news hsrc hl h1 h63 hbytes hbase
  unfold Oper.wp execOp
  simp only [ho, resolve, invoke, builtin, Sem.run_bind, Sem.run_pure, Result.andThen_ok, List.map_toArray, List.map_cons, List.map_nil, hs, hx, hr]
  exact h v' w' h2 h3
end
theorem str_u8s (s : ByteArray) : Lib.strCells s = u8s (s.data.toList.map UInt8.toNat) := by
  unfold Lib.strCells u8s
  rw [List.map_map]
  rfl
theorem oct_str (s : ByteArray) : Oct (s.data.toList.map UInt8.toNat) := fun c hc => by
  obtain ⟨b, _, rfl⟩ := List.mem_map.1 hc
  exact b.toNat_lt
theorem oct_app {a b : List Nat} (ha : Oct a) (hb : Oct b) : Oct (a ++ b) := fun c hc => by
  rcases List.mem_append.1 hc with h | h
  · exact ha c h
  · exact hb c h
theorem u8s_app (a b : List Nat) : u8s (a ++ b) = u8s a ++ u8s b := by unfold u8s; exact List.map_append
theorem oct_nought : Oct [0] := fun c hc => by rw [List.mem_singleton.1 hc]; decide
/-- Bytes of one's own: a row at base or behind it. -/
structure Mine (w : World) (base : Nat) (v : Value) (n : Nat) : Prop where
  row : ∃ l, w.ownsRow base 5 1 v n (u8s l) ∧ Oct l
  size : base ≤ w.heap.size
theorem Mine.below {w w' : World} {base : Nat} {v : Value} {n : Nat} (h : Mine w base v n) (hb : Below w.heap.size w w') : Mine w' base v n := by
  obtain ⟨⟨l, h1, h2⟩, h3⟩ := h
  exact ⟨⟨l, owns_below h1 hb, h2⟩, Nat.le_trans h3 hb.size⟩
theorem Mine.bytes {w : World} {base B : Nat} {v : Value} {n : Nat} (h : Mine w base v n) (hB : B ≤ base) : BytesAt w (fun g => B ≤ g) v n := by
  obtain ⟨⟨l, h1, h2⟩, _⟩ := h
  exact (owns_bytes h1 h2).mono (fun g hg => Nat.le_trans hB hg)
/-- A byte 0 at the head of a block. -/
def NoughtAt (w : World) (N : Nat) : Prop := N < w.heap.size ∧ w.cell? ⟨N, 0, none⟩ = some (.int .u8 0)
theorem NoughtAt.keep {w w' : World} {N : Nat} (h : NoughtAt w N) (hb : Below w.heap.size w w') : NoughtAt w' N := ⟨Nat.lt_of_lt_of_le h.1 hb.size, cell_keep hb h.2⟩
theorem NoughtAt.new (w : World) (t : TypeId) : NoughtAt (w.alloc (.cells #[.int .u8 0] t)) w.heap.size :=
  ⟨(Array.getElem?_eq_some_iff.1 (heap_alloc_new w _)).1, (cell_of_row _ _ 0 _ _ _ (heap_alloc_new w _)).trans rfl⟩
theorem NoughtAt.reads {w : World} {N : Nat} (h : NoughtAt w N) : ∀ j u, ([.int .u8 0] : List Value)[j]? = some u → w.cell? (Addr.add ⟨N, 0, none⟩ j) = some u := by
  intro j u hj
  cases j with
  | zero => simp at hj; subst hj; exact h.2
  | succ j => simp at hj
theorem Mine.str {w' : World} {base : Nat} {v' : Value} {n : Nat} {s : ByteArray} {l : List Nat} (ho : w'.ownsRow base 5 1 v' (n + s.size) (u8s l ++ Lib.strCells s)) (hl : Oct l) (hb : base ≤ w'.heap.size) : Mine w' base v' (n + s.size) := by
  rw [str_u8s, ← u8s_app] at ho
  exact ⟨⟨_, ho, oct_app hl (oct_str s)⟩, hb⟩
theorem Mine.more {w' : World} {base : Nat} {v' : Value} {n m : Nat} {l k : List Nat} (ho : w'.ownsRow base 5 1 v' (n + m) (u8s l ++ u8s k)) (hl : Oct l) (hk : Oct k) (hb : base ≤ w'.heap.size) : Mine w' base v' (n + m) := by
  rw [← u8s_app] at ho
  exact ⟨⟨_, ho, oct_app hl hk⟩, hb⟩
theorem src_bytes {w : World} {Q : Nat → Prop} {a : Option Addr} {n : Nat} {l : List Nat} (hl : l.length = n) (hr : BytesIn w Q a l) : Src w a n (u8s l) := by
  rcases hr with rfl | ⟨g, o, rfl, _, hr⟩
  · exact ⟨fun _ => by simpa using hl.symm, fun ad _ j u hj => by simp [u8s] at hj⟩
  · refine ⟨fun e => (by cases e), fun ad e j u hj => ?_⟩
    cases e
    have hjl : j < l.length := by
      have := (List.getElem?_eq_some_iff.1 hj).1
      simpa [u8s] using this
    rw [Addr.add_mid, hr j hjl, ← hj]
    simp [u8s, Go.Proofs.YtpiookgkkaafeaaDoor.u8, List.getElem?_eq_getElem hjl, List.getD_eq_getElem?_getD]
end Go.Proofs.YtpiookgkkaafeaaDoor
end
section
namespace Go.Proofs.YtpiookgkkaafeaaDoor
open Go.RowKit
open Seal
open Bson (Val)
section
variable {P : Program}
theorem step_append_lies {ops : Array Oper} {o : Oper} {a : Act} {w : World} {K : Act → World → Prop} {Q : Exit → Act → World → Prop} {E : Prop}
    (hg : o.guard = none) (s x : Operand) (t : TypeId) (ho : o.op = .call { callee := .builtin .append, args := #[s, x], argTypes := #[t, t] })
    (base : Nat) (e : TypeId) (i : TypeInfo) (z : Value) (size bytes : Nat) (ht : P.underlying t = some (.slice e)) (hi : P.info? e = some i) (hz : i.zero = some z)
    (hsize : i.size = size) (hby : i.bytes = bytes) (hzs : z.cells.size = size) (hsz : 0 < size) (v : Value) (n : Nat) (xs : List Value) (hs : a.eval s = v) (hown : w.ownsRow base e size v n xs)
    (ad : Addr) (m c : Nat) (news : List Value) (hx : a.eval x = .slice (some ad) m c) (hl : news.length = m * size) (hm : 0 < m) (hnews : ∀ j u, news[j]? = some u → w.cell? (ad.add j) = some u) (h1 : ∀ u ∈ news, u.oneCell' = true)
    (h63 : n + m ≤ maxLen) (hbytes : (n + m) * bytes ≤ 140737488355328) (hbase : base ≤ w.heap.size)
    (h : ∀ v' w', w'.ownsRow base e size v' (n + m) (xs ++ news) → Lies w w' v v' → K (a.put o.dst v') w') :
    if Region.wanted o (yielded ops a.tmps) = true then Oper.wp P o a w K Q else E := by
  have hw : Region.wanted o (yielded ops a.tmps) = true := by simp [Region.wanted, hg]
  rw [if_pos hw]
  obtain ⟨v', w', hr, h2, h3⟩ := run_append_sz (P := P) w base t o.type e i z size bytes ht hi hz hsize hby hzs v n xs hown ad m c news hl hm hsz hnews h1 h63 hbytes hbase
  unfold Oper.wp execOp
  simp only [ho, resolve, invoke, builtin, Sem.run_bind, Sem.run_pure, Result.andThen_ok, List.map_toArray, List.map_cons, List.map_nil, hs, hx, hr]
  exact h v' w' h2 h3
end
theorem infoField : (Tryd.prog.info? 43).map (fun i => (i.zero, i.size, i.bytes)) = some (some (.agg #[.string ⟨#[]⟩, .int .i64 0, .int .i64 0, .string ⟨#[]⟩, .slice none 0 0, .slice none 0 0, .slice none 0 0]), 7, 120) := by kernel_rfl
theorem seven_new (w : World) (c0 c1 c2 c3 c4 c5 c6 : Value) (t : TypeId) : ∀ j u, ([c0, c1, c2, c3, c4, c5, c6] : List Value)[j]? = some u → (w.alloc (.cells #[c0, c1, c2, c3, c4, c5, c6] t)).cell? (Addr.add ⟨w.heap.size, 0, none⟩ j) = some u := by
  intro j u hj
  rw [Addr.add_mid, Nat.zero_add, cell_of_row _ _ j _ _ _ (heap_alloc_new w _)]
  simpa using hj
theorem seven_one (nm : ByteArray) (k n : Int) (s : ByteArray) (ba fa la : Option Addr) (bl bc fl fc ll lc : Nat) : ∀ u ∈ ([.string nm, .int .i64 k, .int .i64 n, .string s, .slice ba bl bc, .slice fa fl fc, .slice la ll lc] : List Value), u.oneCell' = true := by
  intro u hu
  simp at hu
  rcases hu with rfl | rfl | rfl | rfl | rfl | rfl | rfl <;> rfl
end Go.Proofs.YtpiookgkkaafeaaDoor
end
