/- OctOpen, PathItems, PathAccMany, PathItself, PathAItems, PathReach, PathAAll, PathADoc, PathATop, PathAll, PathSplit, PathUtf8, PathMay, PathParse, PathRefMay, PathRefParse, PathReachTop, PathAwake, PathParsesWalk, PathBackWalk, PathBackLaw, RefSmall, RefNumX, RefRd, RefRName. -/
import Derived.Deep.RegionHeld3
import Derived.Laws.AppendOwn
import Derived.Lib.IndexBytes
import Derived.Lib.CutLaws
import Derived.Lib.ValidLaws
import Derived.Laws.BitsAllLaws
import Derived.Test.YtpiookgkkaafeaaDoorShelf
import Derived.Laws.DeepStrings4
import Derived.Test.YtpiookgkkaafeaaDoorMg23
import Derived.Test.YtpiookgkkaafeaaDoorMg6
import Derived.Test.YtpiookgkkaafeaaDoorMg20
import Derived.Test.YtpiookgkkaafeaaDoorMg0
import Derived.Test.YtpiookgkkaafeaaDoorMg8
import Derived.Test.YtpiookgkkaafeaaDoorMg4
import Derived.Test.YtpiookgkkaafeaaDoorMg5
import Derived.Test.YtpiookgkkaafeaaDoorMg9
import Derived.Test.YtpiookgkkaafeaaDoorMg3
import Derived.Test.YtpiookgkkaafeaaDoorMg27
import Derived.Test.YtpiookgkkaafeaaDoorMg10
set_option maxRecDepth 100000
section
namespace Go.Proofs.YtpiookgkkaafeaaDoor
open Go.ChangeShapes Go.WideShapes Go.ChangeAt Go.RowKit
theorem cellsU8o : Tryd.prog.cellsOf 5 = 1 := by kernel_rfl
set_option maxRecDepth 100000 in
/-- A slice of bytes that comes in: the bytes that it reads as. -/
theorem open_octets5 {H : Type} {enc : TypeId × Value → H} {W : World} {base : Nat} {v : Value} {d : DataW H} {ps : List MemPlace} (hval : Value.okWide Tryd.prog W .any base 22 v)
    (hd : DataW.Trod enc Tryd.prog W 0 (fun _ => true) true 22 v d ps) :
    ∃ (a : Option Addr) (len cap : Nat) (l : List Nat), v = .slice a len cap ∧ l.length = len ∧ Seal.Oct l ∧ SliceIs W a l ∧ len ≤ cap ∧ cap ≤ 9223372036854775807 := by
  obtain ⟨a0, len, cap, rfl⟩ := okWide_slice Tryd.underlying22 hval
  obtain ⟨fuel, hf⟩ := hd
  rcases open_ints Tryd.underlying22 Tryd.underlying5 cellsU8o hf with ⟨hcs, hx⟩ | ⟨a, len', cap', zs, hcs, _, hl, hm, hz, hx, hcell, hwz⟩
  · simp [Value.cells] at hcs
    obtain ⟨rfl, rfl, rfl⟩ := hcs
    exact ⟨none, 0, 0, [], rfl, rfl, (fun c hc => by cases hc), .inl rfl, Nat.le_refl _, by omega⟩
  · simp [Value.cells] at hcs
    obtain ⟨rfl, rfl, rfl⟩ := hcs
    simp only [if_true] at hz
    have hm' : cap ≤ 9223372036854775807 := hm
    have hwf : ∀ j, j < zs.length → 0 ≤ zs.getD j 0 ∧ zs.getD j 0 < 256 := fun j hj => by
      rw [List.getD_eq_getElem?_getD, List.getElem?_eq_getElem hj]
      exact u8_wf (hwz _ (List.getElem_mem hj))
    refine ⟨some a, len, cap, (zs.take len).map Int.toNat, rfl, by simp; omega, ?_, ?_, hl, hm'⟩
    · intro c hc
      obtain ⟨z, hzm, rfl⟩ := List.mem_map.1 hc
      have := u8_wf (hwz z (List.mem_of_mem_take hzm))
      omega
    · by_cases h0 : len = 0
      · subst h0; exact .inl rfl
      · obtain ⟨b, off, spot⟩ := a
        have hspot : spot = none := by simpa [Addr.add] using World.cell?_spot (hcell 0 (by omega))
        subst hspot
        refine .inr ⟨b, off, rfl, fun j hj => ?_⟩
        simp at hj
        have hw := hwf j (by omega)
        have := hcell j (by omega)
        rw [show (⟨b, off, none⟩ : Addr).add j = ⟨b, off + j, none⟩ by (unfold Addr.add; split <;> simp_all)] at this
        rw [this]
        have e : (((zs.take len).map Int.toNat).getD j 0 : Nat) = (zs.getD j 0).toNat := by
          simp [List.getD_eq_getElem?_getD, show j < len by omega, List.getElem?_eq_getElem (show j < zs.length by omega)]
        rw [e, Int.toNat_of_nonneg hw.1]
end Go.Proofs.YtpiookgkkaafeaaDoor
end
section
namespace Go.Proofs.YtpiookgkkaafeaaDoor
open Go.RowKit
open Seal
open Bson (Val)
theorem six_new (w : World) (c0 c1 c2 c3 c4 c5 : Value) (t : TypeId) : ∀ j u, ([c0, c1, c2, c3, c4, c5] : List Value)[j]? = some u → (w.alloc (.cells #[c0, c1, c2, c3, c4, c5] t)).cell? (Addr.add ⟨w.heap.size, 0, none⟩ j) = some u := by
  intro j u hj
  rw [Addr.add_mid, Nat.zero_add, cell_of_row _ _ j _ _ _ (heap_alloc_new w _)]
  simpa using hj
theorem six_one (k n : Int) (s : ByteArray) (ba fa la : Option Addr) (bl bc fl fc ll lc : Nat) : ∀ u ∈ ([.int .i64 k, .int .i64 n, .string s, .slice ba bl bc, .slice fa fl fc, .slice la ll lc] : List Value), u.oneCell' = true := by
  intro u hu
  simp at hu
  rcases hu with rfl | rfl | rfl | rfl | rfl | rfl <;> rfl
end Go.Proofs.YtpiookgkkaafeaaDoor
end
section
namespace Go.Proofs.YtpiookgkkaafeaaDoor
open Go.RowKit
open Seal
open Bson (Val)
/-- Six cells of a list of cells, as a value. -/
def CellsAt (w : World) (Q : Nat → Prop) (h : Nat) (l : List Val) (news : List Value) : Prop := ∀ i (hi : i < l.length), ∃ c0 c1 c2 c3 c4 c5, news[i * 6]? = some c0 ∧ news[i * 6 + 1]? = some c1 ∧ news[i * 6 + 2]? = some c2 ∧ news[i * 6 + 3]? = some c3 ∧ news[i * 6 + 4]? = some c4 ∧ news[i * 6 + 5]? = some c5 ∧ VIn w Q h l[i] (.agg #[c0, c1, c2, c3, c4, c5])
theorem Acc.append {w w' : World} {base : Nat} {v v' : Value} {QA : Nat → Prop} {h : Nat} {ys zs : List Val} {xs news : List Value} (ha : Acc w base v QA h ys xs) (hw : Wrote w w' v v') (hown : w'.ownsRow base 27 6 v' (ys.length + zs.length) (xs ++ news))
    (hv : CellsAt w (fun g => QA g ∧ v.ownBlock ≠ some g) h zs news) (_hl : news.length = zs.length * 6) : Acc w' base v' QA h (ys ++ zs) (xs ++ news) := by
  have hxl : xs.length = ys.length * 6 := ha.own.1
  refine ⟨by rw [List.length_append]; exact hown, fun i hi => ?_⟩
  rw [List.length_append] at hi
  rcases Nat.lt_or_ge i ys.length with hlt | hge
  · obtain ⟨d0, d1, d2, d3, d4, d5, h0, h1, h2, h3, h4, h5, hd⟩ := ha.at' i hlt
    have e : ∀ j, j < 6 → (xs ++ news)[i * 6 + j]? = xs[i * 6 + j]? := fun j hj => List.getElem?_append_left (by omega)
    refine ⟨d0, d1, d2, d3, d4, d5, (e 0 (by omega)).trans h0, (e 1 (by omega)).trans h1, (e 2 (by omega)).trans h2, (e 3 (by omega)).trans h3, (e 4 (by omega)).trans h4, (e 5 (by omega)).trans h5, ?_⟩
    rw [List.getElem_append_left hlt]
    exact hw.vin hd
  · obtain ⟨j, rfl⟩ : ∃ j, i = ys.length + j := ⟨i - ys.length, by omega⟩
    obtain ⟨d0, d1, d2, d3, d4, d5, h0, h1, h2, h3, h4, h5, hd⟩ := hv j (by omega)
    have e : ∀ r, (xs ++ news)[(ys.length + j) * 6 + r]? = news[j * 6 + r]? := fun r => by
      rw [List.getElem?_append_right (by omega)]; congr 1; omega
    refine ⟨d0, d1, d2, d3, d4, d5, (e 0).trans h0, (e 1).trans h1, (e 2).trans h2, (e 3).trans h3, (e 4).trans h4, (e 5).trans h5, ?_⟩
    rw [List.getElem_append_right (by omega)]
    simp only [Nat.add_sub_cancel_left]
    exact hw.vin hd
theorem VIn.items {w : World} {Q : Nat → Prop} {h : Nat} {x : Val} {c0 c1 c2 c3 c4 : Value} {la : Option Addr} {ln lc : Nat} (hv : VIn w Q (h + 1) x (.agg #[c0, c1, c2, c3, c4, .slice la ln lc])) : ln = x.l.length ∧ ItemsIn w Q (VIn w Q h) la x.l := by
  obtain ⟨ba, fa, la', bc, fc, lc', e, _, _, _, _, _, _, hI⟩ := hv
  unfold agg at e
  injection e with e; injection e with e
  injection e with _ e; injection e with _ e; injection e with _ e; injection e with _ e; injection e with _ e; injection e with e _
  injection e with e1 e2 _
  subst e1
  exact ⟨e2, hI⟩
section
variable {P : Program}
end
end Go.Proofs.YtpiookgkkaafeaaDoor
end
section
namespace Go.Proofs.YtpiookgkkaafeaaDoor
open Go.RowKit
open Seal
open Bson (Val)
end Go.Proofs.YtpiookgkkaafeaaDoor
end
section
namespace Go.Proofs.YtpiookgkkaafeaaDoor
open Go.RowKit
open Seal
open Bson (Val)
/-- A row of texts in memory, beside the row v of one's own. -/
def StrsBy (w : World) (v : Value) (a : Option Addr) (p : List ByteArray) : Prop := p = [] ∨ ∃ g o, a = some ⟨g, o, none⟩ ∧ v.ownBlock ≠ some g ∧ ∀ i (hi : i < p.length), w.cell? ⟨g, o + i, none⟩ = some (.string p[i])
theorem StrsBy.keep {w w' : World} {v : Value} {a : Option Addr} {p : List ByteArray} (h : StrsBy w v a p) (hb : Below w.heap.size w w') : StrsBy w' v a p := by
  rcases h with h | ⟨g, o, e, hg, h⟩
  · exact .inl h
  · exact .inr ⟨g, o, e, hg, fun i hi => cell_keep hb (h i hi)⟩
end Go.Proofs.YtpiookgkkaafeaaDoor
end
section
namespace Go.Proofs.YtpiookgkkaafeaaDoor
open Go.RowKit
open Seal
open Bson (Val)
end Go.Proofs.YtpiookgkkaafeaaDoor
end
section
namespace Go.Proofs.YtpiookgkkaafeaaDoor
open Go.RowKit
open Seal
open Bson (Val)
end Go.Proofs.YtpiookgkkaafeaaDoor
end
section
namespace Go.Proofs.YtpiookgkkaafeaaDoor
open Go.RowKit
open Seal
open Bson (Val)
end Go.Proofs.YtpiookgkkaafeaaDoor
end
section
namespace Go.Proofs.YtpiookgkkaafeaaDoor
open Go.RowKit
open Seal
open Bson (Val)
end Go.Proofs.YtpiookgkkaafeaaDoor
end
section
namespace Go.Proofs.YtpiookgkkaafeaaDoor
open Go.RowKit
open Seal
open Bson (Val)
/-- A row of values, each of which lies in other blocks than the row. -/
def Held (w : World) (g H : Nat) (Q : Nat → Prop) (zs : List Val) : Prop := ∀ i (hi : i < zs.length), ∃ v, SixAt w g (i * 6) v ∧ VIn w (fun b => Q b ∧ b ≠ g) H zs[i] v
theorem Held.keep {w w' : World} {g H : Nat} {Q : Nat → Prop} {zs : List Val} (h : Held w g H Q zs) (hb : Below w.heap.size w w') : Held w' g H Q zs := fun i hi => by
  obtain ⟨v, h1, h2⟩ := h i hi
  exact ⟨v, h1.keep hb, h2.keep hb⟩
theorem Held.put {w : World} {g H len : Nat} {Q : Nat → Prop} {zs : List Val} {t : TypeId} (h : Held w g H Q zs) (hr : Row6 w g t len) (hl : zs.length * 6 ≤ len) {k : Nat} (hk : k < zs.length) {c0 c1 c2 c3 c4 c5 : Value} (hn : VIn w (fun b => Q b ∧ b ≠ g) H zs[k] (.agg #[c0, c1, c2, c3, c4, c5])) :
    Held (puts w g (k * 6) [c0, c1, c2, c3, c4, c5]) g H Q zs := by
  intro i hi
  have hkp : Kept (fun b => Q b ∧ b ≠ g) w (puts w g (k * 6) [c0, c1, c2, c3, c4, c5]) := puts_kept _ (fun e => e.2 rfl) _ _
  have hfit : k * 6 + [c0, c1, c2, c3, c4, c5].length ≤ len := by simp; omega
  by_cases hik : i = k
  · subst hik
    exact ⟨_, SixAt.of_puts hr (i * 6) 0 _ hfit c0 c1 c2 c3 c4 c5 rfl rfl rfl rfl rfl rfl, hn.kept hkp (fun _ hg => hg)⟩
  · obtain ⟨v, h1, h2⟩ := h i hi
    refine ⟨v, ?_, h2.kept hkp (fun _ hg => hg)⟩
    obtain ⟨d0, d1, d2, d3, d4, d5, e, h0, h1, h2, h3, h4, h5⟩ := h1
    obtain ⟨_, h6, _⟩ := hr.puts (k * 6) [c0, c1, c2, c3, c4, c5] hfit
    have q : ∀ j, j < 6 → (i * 6 + j < k * 6 ∨ k * 6 + [c0, c1, c2, c3, c4, c5].length ≤ i * 6 + j) := fun j hj => by simp; omega
    exact ⟨d0, d1, d2, d3, d4, d5, e, (h6 (i * 6) (q 0 (by omega))).trans h0, (h6 _ (q 1 (by omega))).trans h1, (h6 _ (q 2 (by omega))).trans h2, (h6 _ (q 3 (by omega))).trans h3, (h6 _ (q 4 (by omega))).trans h4, (h6 _ (q 5 (by omega))).trans h5⟩
end Go.Proofs.YtpiookgkkaafeaaDoor
end
section
namespace Go.Proofs.YtpiookgkkaafeaaDoor
open Go
namespace Path
/-- What lies between the points. -/
def split : List UInt8 → List (List UInt8)
  | [] => [[]]
  | c :: r => if c = 46 then [] :: split r else (c :: (split r).headD []) :: (split r).tail
theorem split_free : ∀ (a : List UInt8), 46 ∉ a → split a = [a]
  | [], _ => rfl
  | c :: r, h => by
    have hc : c ≠ 46 := fun e => h (by simp [e])
    have ih := split_free r (fun e => h (by simp [e]))
    simp [split, hc, ih]
theorem split_cut : ∀ (a b : List UInt8), 46 ∉ a → split (a ++ 46 :: b) = a :: split b
  | [], b, _ => by simp [split]
  | c :: r, b, h => by
    have hc : c ≠ 46 := fun e => h (by simp [e])
    have ih := split_cut r b (fun e => h (by simp [e]))
    simp [split, hc, ih]
/-- May a path have such a name? -/
def may (x : List UInt8) : Bool := (!x.isEmpty) && (x.headD 0 != 36) && decide (x.length ≤ 120) && decide (0 ∉ x) && Lib.validD x
/-- The names of a text that is a path. -/
def parse (s : List UInt8) : Option (List (List UInt8)) := if (split s).all may = true ∧ (split s).length ≤ 16 then some (split s) else none
end Path
end Go.Proofs.YtpiookgkkaafeaaDoor
end
section
namespace Go.Proofs.YtpiookgkkaafeaaDoor
open Go.RowKit
open Seal
open Bson (Val)
namespace Path
/-- The byte at a place, 0 beyond the end. -/
def byte (s : ByteArray) (k : Nat) : Nat := (s.data.toList.getD k 0).toNat
theorem byte_lt (s : ByteArray) (k : Nat) : byte s k < 256 := (s.data.toList.getD k 0).toNat_lt
theorem len_list (s : ByteArray) : s.data.toList.length = s.size := Array.length_toList
def Cls (c n lo hi : Nat) : Prop := Lib.firstT c % 8 = n + 1 ∧ Lib.accLo (Lib.firstT c / 16) = lo ∧ Lib.accHi (Lib.firstT c / 16) = hi ∧ (n = 1 ∨ n = 2 ∨ n = 3)
theorem getD_drop (l : List UInt8) (k j : Nat) : (l.drop k).getD j 0 = l.getD (k + j) 0 := by
  rw [List.getD_eq_getElem?_getD, List.getD_eq_getElem?_getD, List.getElem?_drop]
theorem low_step (s : ByteArray) (k : Nat) (hk : k < s.size) (h : byte s k < 128) : Lib.validD (s.data.toList.drop k) = Lib.validD (s.data.toList.drop (k + 1)) := by
  have hl := len_list s
  have e := List.drop_eq_getElem_cons (l := s.data.toList) (i := k) (by omega)
  rw [e]
  refine Lib.validD_cons _ _ ?_
  have : byte s k = (s.data.toList[k]'(by omega)).toNat := by unfold byte; rw [List.getD_eq_getElem?_getD, List.getElem?_eq_getElem (by omega)]; rfl
  omega
theorem lead_eq (s : ByteArray) (k : Nat) (hk : k < s.size) (h : 128 ≤ byte s k) :
    Lib.validD (s.data.toList.drop k) = match Lib.checkN (s.size - k) (byte s (k + 1)) (byte s (k + 2)) (byte s (k + 3)) (Lib.firstT (byte s k) % 8) (Lib.accLo (Lib.firstT (byte s k) / 16)) (Lib.accHi (Lib.firstT (byte s k) / 16)) with
      | none => false
      | some m => Lib.validD (s.data.toList.drop (k + m)) := by
  have hl := len_list s
  have hne : s.data.toList.drop k ≠ [] := fun e => by have := congrArg List.length e; rw [List.length_drop] at this; simp at this; omega
  have h0 := Lib.validD_lead (s.data.toList.drop k) hne (by rw [getD_drop]; exact h)
  rw [List.length_drop, hl, getD_drop, getD_drop, getD_drop, getD_drop, Nat.add_zero] at h0
  rw [h0]
  simp only [List.drop_drop]
  rfl
theorem bad_lead (s : ByteArray) (k : Nat) (hk : k < s.size) (h : 128 ≤ byte s k) (hb : byte s k < 194 ∨ 244 < byte s k) : Lib.validD (s.data.toList.drop k) = false := by
  rw [lead_eq s k hk h]
  have e : Lib.firstT (byte s k) = 241 := by unfold Lib.firstT; repeat' split
                                             all_goals omega
  rw [e]; rfl
theorem short_lead (s : ByteArray) (k n lo hi : Nat) (hk : k < s.size) (h : 128 ≤ byte s k) (hc : Cls (byte s k) n lo hi) (hb : s.size - k < n + 1) : Lib.validD (s.data.toList.drop k) = false := by
  obtain ⟨h1, h2, h3, h4⟩ := hc
  rw [lead_eq s k hk h, h1, h2, h3]
  rcases h4 with rfl | rfl | rfl <;> simp [Lib.checkN, hb]
theorem one_lead (s : ByteArray) (k n lo hi : Nat) (hk : k < s.size) (h : 128 ≤ byte s k) (hc : Cls (byte s k) n lo hi) (hb : byte s (k + 1) < lo ∨ hi < byte s (k + 1)) : Lib.validD (s.data.toList.drop k) = false := by
  obtain ⟨h1, h2, h3, h4⟩ := hc
  rw [lead_eq s k hk h, h1, h2, h3]
  rcases h4 with rfl | rfl | rfl <;> rcases hb with hb | hb <;> simp [Lib.checkN, hb]
theorem more_lead (s : ByteArray) (k n lo hi j : Nat) (hk : k < s.size) (h : 128 ≤ byte s k) (hc : Cls (byte s k) n lo hi) (hj : 2 ≤ j) (hjn : j ≤ n) (hb : byte s (k + j) < 128 ∨ 191 < byte s (k + j)) : Lib.validD (s.data.toList.drop k) = false := by
  obtain ⟨h1, h2, h3, h4⟩ := hc
  rw [lead_eq s k hk h, h1, h2, h3]
  rcases h4 with rfl | rfl | rfl
  · omega
  · obtain rfl : j = 2 := by omega
    rcases hb with hb | hb <;> simp [Lib.checkN, hb]
  · obtain rfl | rfl : j = 2 ∨ j = 3 := by omega
    · rcases hb with hb | hb <;> simp [Lib.checkN, hb]
    · rcases hb with hb | hb <;> simp [Lib.checkN, hb]
theorem good_lead (s : ByteArray) (k n lo hi : Nat) (hk : k < s.size) (h : 128 ≤ byte s k) (hc : Cls (byte s k) n lo hi) (hb : ¬ s.size - k < n + 1) (hb1 : ¬ (byte s (k + 1) < lo ∨ hi < byte s (k + 1))) (hm : ∀ j, 2 ≤ j → j ≤ n → 128 ≤ byte s (k + j) ∧ byte s (k + j) ≤ 191) :
    Lib.validD (s.data.toList.drop k) = Lib.validD (s.data.toList.drop (k + n + 1)) := by
  obtain ⟨h1, h2, h3, h4⟩ := hc
  rw [lead_eq s k hk h, h1, h2, h3]
  have e : Lib.checkN (s.size - k) (byte s (k + 1)) (byte s (k + 2)) (byte s (k + 3)) (n + 1) lo hi = some (n + 1) := by
    rcases h4 with rfl | rfl | rfl
    · unfold Lib.checkN; rw [if_pos rfl, if_neg (by omega)]
    · have := hm 2 (by omega) (by omega)
      unfold Lib.checkN; rw [if_neg (by omega), if_pos rfl, if_neg (by omega)]
    · have := hm 2 (by omega) (by omega)
      have := hm 3 (by omega) (by omega)
      unfold Lib.checkN; rw [if_neg (by omega), if_neg (by omega), if_pos rfl, if_neg (by omega)]
  rw [e]; rfl
theorem cls_a : ∀ c : Fin 256, 194 ≤ c.val → c.val ≤ 223 → Lib.firstT c.val % 8 = 1 + 1 ∧ Lib.accLo (Lib.firstT c.val / 16) = 128 ∧ Lib.accHi (Lib.firstT c.val / 16) = 191 := by decide +kernel
theorem cls_b : ∀ c : Fin 256, 225 ≤ c.val → c.val ≤ 239 → c.val ≠ 237 → Lib.firstT c.val % 8 = 2 + 1 ∧ Lib.accLo (Lib.firstT c.val / 16) = 128 ∧ Lib.accHi (Lib.firstT c.val / 16) = 191 := by decide +kernel
theorem cls_c : ∀ c : Fin 256, 241 ≤ c.val → c.val ≤ 243 → Lib.firstT c.val % 8 = 3 + 1 ∧ Lib.accLo (Lib.firstT c.val / 16) = 128 ∧ Lib.accHi (Lib.firstT c.val / 16) = 191 := by decide +kernel
theorem cls_of (c : Nat) (h1 : 194 ≤ c) (h2 : c ≤ 244) :
    (194 ≤ c ∧ c ≤ 223 ∧ Cls c 1 128 191) ∨ (c = 224 ∧ Cls c 2 160 191) ∨ (225 ≤ c ∧ c ≤ 239 ∧ c ≠ 237 ∧ Cls c 2 128 191) ∨ (c = 237 ∧ Cls c 2 128 159) ∨ (c = 240 ∧ Cls c 3 144 191) ∨ (241 ≤ c ∧ c ≤ 243 ∧ Cls c 3 128 191) ∨ (c = 244 ∧ Cls c 3 128 143) := by
  by_cases a1 : c ≤ 223
  · obtain ⟨e1, e2, e3⟩ := cls_a ⟨c, by omega⟩ h1 a1
    exact .inl ⟨h1, a1, e1, e2, e3, .inl rfl⟩
  by_cases a2 : c = 224
  · subst a2; exact .inr (.inl ⟨rfl, by decide, by decide, by decide, .inr (.inl rfl)⟩)
  by_cases a3 : c = 237
  · subst a3; exact .inr (.inr (.inr (.inl ⟨rfl, by decide, by decide, by decide, .inr (.inl rfl)⟩)))
  by_cases a4 : c ≤ 239
  · obtain ⟨e1, e2, e3⟩ := cls_b ⟨c, by omega⟩ (by show 225 ≤ c; omega) a4 a3
    exact .inr (.inr (.inl ⟨by omega, a4, a3, e1, e2, e3, .inr (.inl rfl)⟩))
  by_cases a5 : c = 240
  · subst a5; exact .inr (.inr (.inr (.inr (.inl ⟨rfl, by decide, by decide, by decide, .inr (.inr rfl)⟩))))
  by_cases a6 : c = 244
  · subst a6; exact .inr (.inr (.inr (.inr (.inr (.inr ⟨rfl, by decide, by decide, by decide, .inr (.inr rfl)⟩)))))
  · obtain ⟨e1, e2, e3⟩ := cls_c ⟨c, by omega⟩ (by show 241 ≤ c; omega) (by show c ≤ 243; omega)
    exact .inr (.inr (.inr (.inr (.inr (.inl ⟨by omega, by omega, e1, e2, e3, .inr (.inr rfl)⟩)))))
theorem and_lead : ∀ c : Fin 256, (c.val &&& 192 = 128) ↔ (128 ≤ c.val ∧ c.val ≤ 191) := by decide +kernel
/-- A byte of a text, as the walk reads it. -/
theorem run_byte (s : ByteArray) (k : Nat) (hk : k < s.size) (W : World) : (Instr.index 9 (.string s) (.int .i64 (k : Int))).run Tryd.prog W = .ok (.int .u8 ((byte s k : Nat) : Int)) W := by
  rw [run_index_string W 9 s .i64 (k : Int) (by kernel_rfl), dif_pos ⟨by omega, by omega⟩]
  have : (s[(k : Int).toNat]'(by omega)).toNat = byte s k := by
    unfold byte
    rw [List.getD_eq_getElem?_getD, List.getElem?_eq_getElem (by rw [len_list]; omega)]
    rfl
  rw [this]
end Path
open Path
set_option maxRecDepth 100000 in
set_option maxHeartbeats 2000000 in
theorem utf8ref_any (s : ByteArray) (w : World) (hs : s.size ≤ 140737488355328) :
    Calls Tryd.prog 46 #[.string s] w fun e w' => e = .returned (.bool (Lib.validD s.data.toList)) ∧ Below w.heap.size w w' := by
  obtain ⟨N, hN⟩ : ∃ N, N = s.size := ⟨_, rfl⟩
  have HRB := Lib.hid (run_byte s)
  go_enter Tryd.func46, Tryd.ntmps46
  go_wp2_with fail
  go_loopw [3] (fun i wr => ∃ k : Nat, i = .int .i64 k ∧ k ≤ s.size ∧ Hid (Lib.validD (s.data.toList.drop k) = Lib.validD s.data.toList) ∧ Hid (Below w.heap.size w wr)) (fun i _ => s.size - (intOf i).toNat)
  case atStart => exact ⟨0, rfl, Nat.zero_le _, rfl, Below.refl _ _⟩
  case round =>
    obtain ⟨k, rfl, hk, HE, HB⟩ := hrel
    by_cases hlt : k < s.size
    · have i0 := HRB.out k hlt
      obtain ⟨c, hc⟩ : ∃ c, c = byte s k := ⟨_, rfl⟩
      rw [← hc] at i0
      have hc256 : c < 256 := by rw [hc]; exact byte_lt s k
      have HC := Lib.hid hc
      clear hc
      by_cases h128 : c < 128
      · have HE2 : Hid (Lib.validD (s.data.toList.drop (k + 1)) = Lib.validD s.data.toList) := (low_step s k hlt (by rw [← HC.out]; exact h128)).symm.trans HE.out
        go_wp2_with fail
        go_roundw
        case rel => exact ⟨k + 1, by go_num, by omega, HE2, HB⟩
        case measure => simp [intOf]; omega
      · by_cases hbad : c < 194 ∨ 244 < c
        · have hres : Lib.validD s.data.toList = false := HE.out.symm.trans (bad_lead s k hlt (by rw [← HC.out]; omega) (by rw [← HC.out]; exact hbad))
          have HRES := Lib.hid hres
          clear hres
          rcases hbad with hbad | hbad
          · go_wp2_with fail
            go_ret
            exact ⟨by rw [HRES.out]; rfl, HB.out⟩
          · go_wp2_with fail
            go_ret
            exact ⟨by rw [HRES.out]; rfl, HB.out⟩
        · have hcls := cls_of c (by omega) (by omega)
          clear hbad
          rcases hcls with ⟨ha, hb, hcl⟩ | ⟨ha, hcl⟩ | ⟨ha, hb, hne, hcl⟩ | ⟨ha, hcl⟩ | ⟨ha, hcl⟩ | ⟨ha, hb, hcl⟩ | ⟨ha, hcl⟩
          · have HCL := Lib.hid hcl
            clear hcl
            have q1 : IntKind.i64.wrap ((s.size : Int) - (k : Int)) = (s.size : Int) - (k : Int) := IntWalk.i64_in _ (by omega)
            have q2 : IntKind.i64.wrap ((s.size : Int) - (k : Int) - 1) = (s.size : Int) - (k : Int) - 1 := IntWalk.i64_in _ (by omega)
            have q3 : IntKind.i64.wrap ((k : Int) + 1) = (k : Int) + 1 := IntWalk.i64_in _ (by omega)
            by_cases hsh : s.size - k < 2
            · have q4 : decide ((s.size : Int) - (k : Int) - 1 < 1) = true := decide_eq_true (by omega)
              have q5 : (s.size : Int) - (k : Int) - 1 < 1 := by omega
              have HRES : Hid (Lib.validD s.data.toList = false) := HE.out.symm.trans (short_lead s k 1 128 191 hlt (by rw [← HC.out]; omega) (by rw [← HC.out]; exact HCL.out) hsh)
              go_wp2_with fail
              go_ret
              exact ⟨by rw [HRES.out]; rfl, HB.out⟩
            · have q4 : decide ((s.size : Int) - (k : Int) - 1 < 1) = false := decide_eq_false (by omega)
              have q5 : ¬ (s.size : Int) - (k : Int) - 1 < 1 := by omega
              have i1 : ∀ W, (Instr.index 9 (.string s) (.int .i64 ((k : Int) + 1))).run Tryd.prog W = .ok (.int .u8 ((byte s (k + 1) : Nat) : Int)) W := HRB.out (k + 1) (by omega)
              obtain ⟨d, hd⟩ : ∃ d, d = byte s (k + 1) := ⟨_, rfl⟩
              have hd256 : d < 256 := by rw [hd]; exact byte_lt s _
              rw [← hd] at i1
              have HD := Lib.hid hd
              clear hd
              by_cases hlo : d < 128
              · have d1 : decide ((d : Int) < 128) = true := decide_eq_true (by omega)
                have d2 : decide (d < 128) = true := decide_eq_true hlo
                have HRES : Hid (Lib.validD s.data.toList = false) := HE.out.symm.trans (one_lead s k 1 128 191 hlt (by rw [← HC.out]; omega) (by rw [← HC.out]; exact HCL.out) (.inl (by rw [← HD.out]; exact hlo)))
                go_wp2_with fail
                go_ret
                exact ⟨by rw [HRES.out]; rfl, HB.out⟩
              · have d1 : decide ((d : Int) < 128) = false := decide_eq_false (by omega)
                have d2 : decide (d < 128) = false := decide_eq_false hlo
                by_cases hhi : 191 < d
                · have d3 : decide (191 < (d : Int)) = true := decide_eq_true (by omega)
                  have d4 : decide (191 < d) = true := decide_eq_true hhi
                  have HRES : Hid (Lib.validD s.data.toList = false) := HE.out.symm.trans (one_lead s k 1 128 191 hlt (by rw [← HC.out]; omega) (by rw [← HC.out]; exact HCL.out) (.inr (by rw [← HD.out]; exact hhi)))
                  go_wp2_with fail
                  go_ret
                  exact ⟨by rw [HRES.out]; rfl, HB.out⟩
                · have d3 : decide (191 < (d : Int)) = false := decide_eq_false (by omega)
                  have d4 : decide (191 < d) = false := decide_eq_false hhi
                  go_wp2_with fail
                  go_loopw [8] (fun i wr => ∃ j : Nat, i = .int .i64 j ∧ 2 ≤ j ∧ j ≤ 2 ∧ Hid (∀ x, 2 ≤ x → x < j → 128 ≤ byte s (k + x) ∧ byte s (k + x) ≤ 191) ∧ Hid (Below w.heap.size w wr)) (fun i _ => 5 - (intOf i).toNat)
                  case atStart => exact ⟨2, rfl, Nat.le_refl _, by omega, fun x h1 h2 => by omega, HB⟩
                  case round =>
                    obtain ⟨j, rfl, hj2, hjn, HJ, HB3⟩ := hrel
                    by_cases hj : j ≤ 1
                    · omega
                    · have HE2 : Hid (Lib.validD (s.data.toList.drop (k + 1 + 1)) = Lib.validD s.data.toList) := (good_lead s k 1 128 191 hlt (by rw [← HC.out]; omega) (by rw [← HC.out]; exact HCL.out) hsh (by rw [← HD.out]; omega) (fun y h1 h2 => HJ.out y h1 (by omega))).symm.trans HE.out
                      have q7 : IntKind.i64.wrap ((k : Int) + 1) = (k : Int) + 1 := IntWalk.i64_in _ (by omega)
                      have q8 : IntKind.i64.wrap ((k : Int) + 1 + 1) = (k : Int) + 1 + 1 := IntWalk.i64_in _ (by omega)
                      go_wp2_with fail
                      go_roundw
                      case rel => exact ⟨k + 1 + 1, by go_num, by omega, HE2, HB3⟩
                      case measure => simp [intOf]; omega
          · have HCL := Lib.hid hcl
            clear hcl
            have q1 : IntKind.i64.wrap ((s.size : Int) - (k : Int)) = (s.size : Int) - (k : Int) := IntWalk.i64_in _ (by omega)
            have q2 : IntKind.i64.wrap ((s.size : Int) - (k : Int) - 1) = (s.size : Int) - (k : Int) - 1 := IntWalk.i64_in _ (by omega)
            have q3 : IntKind.i64.wrap ((k : Int) + 1) = (k : Int) + 1 := IntWalk.i64_in _ (by omega)
            by_cases hsh : s.size - k < 3
            · have q4 : decide ((s.size : Int) - (k : Int) - 1 < 2) = true := decide_eq_true (by omega)
              have q5 : (s.size : Int) - (k : Int) - 1 < 2 := by omega
              have HRES : Hid (Lib.validD s.data.toList = false) := HE.out.symm.trans (short_lead s k 2 160 191 hlt (by rw [← HC.out]; omega) (by rw [← HC.out]; exact HCL.out) hsh)
              go_wp2_with fail
              go_ret
              exact ⟨by rw [HRES.out]; rfl, HB.out⟩
            · have q4 : decide ((s.size : Int) - (k : Int) - 1 < 2) = false := decide_eq_false (by omega)
              have q5 : ¬ (s.size : Int) - (k : Int) - 1 < 2 := by omega
              have i1 : ∀ W, (Instr.index 9 (.string s) (.int .i64 ((k : Int) + 1))).run Tryd.prog W = .ok (.int .u8 ((byte s (k + 1) : Nat) : Int)) W := HRB.out (k + 1) (by omega)
              obtain ⟨d, hd⟩ : ∃ d, d = byte s (k + 1) := ⟨_, rfl⟩
              have hd256 : d < 256 := by rw [hd]; exact byte_lt s _
              rw [← hd] at i1
              have HD := Lib.hid hd
              clear hd
              by_cases hlo : d < 160
              · have d1 : decide ((d : Int) < 160) = true := decide_eq_true (by omega)
                have d2 : decide (d < 160) = true := decide_eq_true hlo
                have HRES : Hid (Lib.validD s.data.toList = false) := HE.out.symm.trans (one_lead s k 2 160 191 hlt (by rw [← HC.out]; omega) (by rw [← HC.out]; exact HCL.out) (.inl (by rw [← HD.out]; exact hlo)))
                go_wp2_with fail
                go_ret
                exact ⟨by rw [HRES.out]; rfl, HB.out⟩
              · have d1 : decide ((d : Int) < 160) = false := decide_eq_false (by omega)
                have d2 : decide (d < 160) = false := decide_eq_false hlo
                by_cases hhi : 191 < d
                · have d3 : decide (191 < (d : Int)) = true := decide_eq_true (by omega)
                  have d4 : decide (191 < d) = true := decide_eq_true hhi
                  have HRES : Hid (Lib.validD s.data.toList = false) := HE.out.symm.trans (one_lead s k 2 160 191 hlt (by rw [← HC.out]; omega) (by rw [← HC.out]; exact HCL.out) (.inr (by rw [← HD.out]; exact hhi)))
                  go_wp2_with fail
                  go_ret
                  exact ⟨by rw [HRES.out]; rfl, HB.out⟩
                · have d3 : decide (191 < (d : Int)) = false := decide_eq_false (by omega)
                  have d4 : decide (191 < d) = false := decide_eq_false hhi
                  go_wp2_with fail
                  go_loopw [8] (fun i wr => ∃ j : Nat, i = .int .i64 j ∧ 2 ≤ j ∧ j ≤ 3 ∧ Hid (∀ x, 2 ≤ x → x < j → 128 ≤ byte s (k + x) ∧ byte s (k + x) ≤ 191) ∧ Hid (Below w.heap.size w wr)) (fun i _ => 5 - (intOf i).toNat)
                  case atStart => exact ⟨2, rfl, Nat.le_refl _, by omega, fun x h1 h2 => by omega, HB⟩
                  case round =>
                    obtain ⟨j, rfl, hj2, hjn, HJ, HB3⟩ := hrel
                    by_cases hj : j ≤ 2
                    · have i2 : ∀ W, (Instr.index 9 (.string s) (.int .i64 ((k : Int) + (j : Int)))).run Tryd.prog W = .ok (.int .u8 ((byte s (k + j) : Nat) : Int)) W := HRB.out (k + j) (by omega)
                      have q6 : IntKind.i64.wrap ((k : Int) + (j : Int)) = (k : Int) + (j : Int) := IntWalk.i64_in _ (by omega)
                      obtain ⟨x, hx⟩ : ∃ x, x = byte s (k + j) := ⟨_, rfl⟩
                      have hx256 : x < 256 := by rw [hx]; exact byte_lt s _
                      rw [← hx] at i2
                      have hand := and_lead ⟨x, hx256⟩
                      have hbit : bits .and .u8 (x : Int) 192 = ((x &&& 192 : Nat) : Int) := u8_and_nat x 192 hx256 (by decide)
                      have HX := Lib.hid hx
                      clear hx
                      by_cases hok : 128 ≤ x ∧ x ≤ 191
                      · have hand2 : x &&& 192 = 128 := hand.2 hok
                        have HJ2 : Hid (∀ y, 2 ≤ y → y < j + 1 → 128 ≤ byte s (k + y) ∧ byte s (k + y) ≤ 191) := by
                          intro y h1 h2
                          rcases Nat.lt_or_ge y j with h3 | h3
                          · exact HJ.out y h1 h3
                          · obtain rfl : y = j := by omega
                            rw [← HX.out]; exact hok
                        have hb6 : (bits .and .u8 (x : Int) 192 != 128) = false := by rw [hbit, hand2]; rfl
                        clear hand hbit hand2 hok
                        go_wp2_with fail
                        go_roundw
                        case rel => exact ⟨j + 1, by go_num, by omega, by omega, HJ2, HB3⟩
                        case measure => simp [intOf]; omega
                      · have hand2 : ¬ x &&& 192 = 128 := fun e => hok (hand.1 e)
                        have hb6 : (bits .and .u8 (x : Int) 192 != 128) = true := by rw [hbit]; simp; omega
                        have HRES : Hid (Lib.validD s.data.toList = false) := HE.out.symm.trans (more_lead s k 2 160 191 j hlt (by rw [← HC.out]; omega) (by rw [← HC.out]; exact HCL.out) hj2 hj (by rw [← HX.out]; omega))
                        clear hand hbit hand2 hok
                        go_wp2_with fail
                        go_ret
                        exact ⟨by rw [HRES.out]; rfl, HB3.out⟩
                    · have HE2 : Hid (Lib.validD (s.data.toList.drop (k + 2 + 1)) = Lib.validD s.data.toList) := (good_lead s k 2 160 191 hlt (by rw [← HC.out]; omega) (by rw [← HC.out]; exact HCL.out) hsh (by rw [← HD.out]; omega) (fun y h1 h2 => HJ.out y h1 (by omega))).symm.trans HE.out
                      have q7 : IntKind.i64.wrap ((k : Int) + 2) = (k : Int) + 2 := IntWalk.i64_in _ (by omega)
                      have q8 : IntKind.i64.wrap ((k : Int) + 2 + 1) = (k : Int) + 2 + 1 := IntWalk.i64_in _ (by omega)
                      go_wp2_with fail
                      go_roundw
                      case rel => exact ⟨k + 2 + 1, by go_num, by omega, HE2, HB3⟩
                      case measure => simp [intOf]; omega
          · rcases Nat.lt_or_gt_of_ne hne with hne | hne
            · have HCL := Lib.hid hcl
              clear hcl
              have q1 : IntKind.i64.wrap ((s.size : Int) - (k : Int)) = (s.size : Int) - (k : Int) := IntWalk.i64_in _ (by omega)
              have q2 : IntKind.i64.wrap ((s.size : Int) - (k : Int) - 1) = (s.size : Int) - (k : Int) - 1 := IntWalk.i64_in _ (by omega)
              have q3 : IntKind.i64.wrap ((k : Int) + 1) = (k : Int) + 1 := IntWalk.i64_in _ (by omega)
              by_cases hsh : s.size - k < 3
              · have q4 : decide ((s.size : Int) - (k : Int) - 1 < 2) = true := decide_eq_true (by omega)
                have q5 : (s.size : Int) - (k : Int) - 1 < 2 := by omega
                have HRES : Hid (Lib.validD s.data.toList = false) := HE.out.symm.trans (short_lead s k 2 128 191 hlt (by rw [← HC.out]; omega) (by rw [← HC.out]; exact HCL.out) hsh)
                go_wp2_with fail
                go_ret
                exact ⟨by rw [HRES.out]; rfl, HB.out⟩
              · have q4 : decide ((s.size : Int) - (k : Int) - 1 < 2) = false := decide_eq_false (by omega)
                have q5 : ¬ (s.size : Int) - (k : Int) - 1 < 2 := by omega
                have i1 : ∀ W, (Instr.index 9 (.string s) (.int .i64 ((k : Int) + 1))).run Tryd.prog W = .ok (.int .u8 ((byte s (k + 1) : Nat) : Int)) W := HRB.out (k + 1) (by omega)
                obtain ⟨d, hd⟩ : ∃ d, d = byte s (k + 1) := ⟨_, rfl⟩
                have hd256 : d < 256 := by rw [hd]; exact byte_lt s _
                rw [← hd] at i1
                have HD := Lib.hid hd
                clear hd
                by_cases hlo : d < 128
                · have d1 : decide ((d : Int) < 128) = true := decide_eq_true (by omega)
                  have d2 : decide (d < 128) = true := decide_eq_true hlo
                  have HRES : Hid (Lib.validD s.data.toList = false) := HE.out.symm.trans (one_lead s k 2 128 191 hlt (by rw [← HC.out]; omega) (by rw [← HC.out]; exact HCL.out) (.inl (by rw [← HD.out]; exact hlo)))
                  go_wp2_with fail
                  go_ret
                  exact ⟨by rw [HRES.out]; rfl, HB.out⟩
                · have d1 : decide ((d : Int) < 128) = false := decide_eq_false (by omega)
                  have d2 : decide (d < 128) = false := decide_eq_false hlo
                  by_cases hhi : 191 < d
                  · have d3 : decide (191 < (d : Int)) = true := decide_eq_true (by omega)
                    have d4 : decide (191 < d) = true := decide_eq_true hhi
                    have HRES : Hid (Lib.validD s.data.toList = false) := HE.out.symm.trans (one_lead s k 2 128 191 hlt (by rw [← HC.out]; omega) (by rw [← HC.out]; exact HCL.out) (.inr (by rw [← HD.out]; exact hhi)))
                    go_wp2_with fail
                    go_ret
                    exact ⟨by rw [HRES.out]; rfl, HB.out⟩
                  · have d3 : decide (191 < (d : Int)) = false := decide_eq_false (by omega)
                    have d4 : decide (191 < d) = false := decide_eq_false hhi
                    go_wp2_with fail
                    go_loopw [8] (fun i wr => ∃ j : Nat, i = .int .i64 j ∧ 2 ≤ j ∧ j ≤ 3 ∧ Hid (∀ x, 2 ≤ x → x < j → 128 ≤ byte s (k + x) ∧ byte s (k + x) ≤ 191) ∧ Hid (Below w.heap.size w wr)) (fun i _ => 5 - (intOf i).toNat)
                    case atStart => exact ⟨2, rfl, Nat.le_refl _, by omega, fun x h1 h2 => by omega, HB⟩
                    case round =>
                      obtain ⟨j, rfl, hj2, hjn, HJ, HB3⟩ := hrel
                      by_cases hj : j ≤ 2
                      · have i2 : ∀ W, (Instr.index 9 (.string s) (.int .i64 ((k : Int) + (j : Int)))).run Tryd.prog W = .ok (.int .u8 ((byte s (k + j) : Nat) : Int)) W := HRB.out (k + j) (by omega)
                        have q6 : IntKind.i64.wrap ((k : Int) + (j : Int)) = (k : Int) + (j : Int) := IntWalk.i64_in _ (by omega)
                        obtain ⟨x, hx⟩ : ∃ x, x = byte s (k + j) := ⟨_, rfl⟩
                        have hx256 : x < 256 := by rw [hx]; exact byte_lt s _
                        rw [← hx] at i2
                        have hand := and_lead ⟨x, hx256⟩
                        have hbit : bits .and .u8 (x : Int) 192 = ((x &&& 192 : Nat) : Int) := u8_and_nat x 192 hx256 (by decide)
                        have HX := Lib.hid hx
                        clear hx
                        by_cases hok : 128 ≤ x ∧ x ≤ 191
                        · have hand2 : x &&& 192 = 128 := hand.2 hok
                          have HJ2 : Hid (∀ y, 2 ≤ y → y < j + 1 → 128 ≤ byte s (k + y) ∧ byte s (k + y) ≤ 191) := by
                            intro y h1 h2
                            rcases Nat.lt_or_ge y j with h3 | h3
                            · exact HJ.out y h1 h3
                            · obtain rfl : y = j := by omega
                              rw [← HX.out]; exact hok
                          have hb6 : (bits .and .u8 (x : Int) 192 != 128) = false := by rw [hbit, hand2]; rfl
                          clear hand hbit hand2 hok
                          go_wp2_with fail
                          go_roundw
                          case rel => exact ⟨j + 1, by go_num, by omega, by omega, HJ2, HB3⟩
                          case measure => simp [intOf]; omega
                        · have hand2 : ¬ x &&& 192 = 128 := fun e => hok (hand.1 e)
                          have hb6 : (bits .and .u8 (x : Int) 192 != 128) = true := by rw [hbit]; simp; omega
                          have HRES : Hid (Lib.validD s.data.toList = false) := HE.out.symm.trans (more_lead s k 2 128 191 j hlt (by rw [← HC.out]; omega) (by rw [← HC.out]; exact HCL.out) hj2 hj (by rw [← HX.out]; omega))
                          clear hand hbit hand2 hok
                          go_wp2_with fail
                          go_ret
                          exact ⟨by rw [HRES.out]; rfl, HB3.out⟩
                      · have HE2 : Hid (Lib.validD (s.data.toList.drop (k + 2 + 1)) = Lib.validD s.data.toList) := (good_lead s k 2 128 191 hlt (by rw [← HC.out]; omega) (by rw [← HC.out]; exact HCL.out) hsh (by rw [← HD.out]; omega) (fun y h1 h2 => HJ.out y h1 (by omega))).symm.trans HE.out
                        have q7 : IntKind.i64.wrap ((k : Int) + 2) = (k : Int) + 2 := IntWalk.i64_in _ (by omega)
                        have q8 : IntKind.i64.wrap ((k : Int) + 2 + 1) = (k : Int) + 2 + 1 := IntWalk.i64_in _ (by omega)
                        go_wp2_with fail
                        go_roundw
                        case rel => exact ⟨k + 2 + 1, by go_num, by omega, HE2, HB3⟩
                        case measure => simp [intOf]; omega
            · have HCL := Lib.hid hcl
              clear hcl
              have q1 : IntKind.i64.wrap ((s.size : Int) - (k : Int)) = (s.size : Int) - (k : Int) := IntWalk.i64_in _ (by omega)
              have q2 : IntKind.i64.wrap ((s.size : Int) - (k : Int) - 1) = (s.size : Int) - (k : Int) - 1 := IntWalk.i64_in _ (by omega)
              have q3 : IntKind.i64.wrap ((k : Int) + 1) = (k : Int) + 1 := IntWalk.i64_in _ (by omega)
              by_cases hsh : s.size - k < 3
              · have q4 : decide ((s.size : Int) - (k : Int) - 1 < 2) = true := decide_eq_true (by omega)
                have q5 : (s.size : Int) - (k : Int) - 1 < 2 := by omega
                have HRES : Hid (Lib.validD s.data.toList = false) := HE.out.symm.trans (short_lead s k 2 128 191 hlt (by rw [← HC.out]; omega) (by rw [← HC.out]; exact HCL.out) hsh)
                go_wp2_with fail
                go_ret
                exact ⟨by rw [HRES.out]; rfl, HB.out⟩
              · have q4 : decide ((s.size : Int) - (k : Int) - 1 < 2) = false := decide_eq_false (by omega)
                have q5 : ¬ (s.size : Int) - (k : Int) - 1 < 2 := by omega
                have i1 : ∀ W, (Instr.index 9 (.string s) (.int .i64 ((k : Int) + 1))).run Tryd.prog W = .ok (.int .u8 ((byte s (k + 1) : Nat) : Int)) W := HRB.out (k + 1) (by omega)
                obtain ⟨d, hd⟩ : ∃ d, d = byte s (k + 1) := ⟨_, rfl⟩
                have hd256 : d < 256 := by rw [hd]; exact byte_lt s _
                rw [← hd] at i1
                have HD := Lib.hid hd
                clear hd
                by_cases hlo : d < 128
                · have d1 : decide ((d : Int) < 128) = true := decide_eq_true (by omega)
                  have d2 : decide (d < 128) = true := decide_eq_true hlo
                  have HRES : Hid (Lib.validD s.data.toList = false) := HE.out.symm.trans (one_lead s k 2 128 191 hlt (by rw [← HC.out]; omega) (by rw [← HC.out]; exact HCL.out) (.inl (by rw [← HD.out]; exact hlo)))
                  go_wp2_with fail
                  go_ret
                  exact ⟨by rw [HRES.out]; rfl, HB.out⟩
                · have d1 : decide ((d : Int) < 128) = false := decide_eq_false (by omega)
                  have d2 : decide (d < 128) = false := decide_eq_false hlo
                  by_cases hhi : 191 < d
                  · have d3 : decide (191 < (d : Int)) = true := decide_eq_true (by omega)
                    have d4 : decide (191 < d) = true := decide_eq_true hhi
                    have HRES : Hid (Lib.validD s.data.toList = false) := HE.out.symm.trans (one_lead s k 2 128 191 hlt (by rw [← HC.out]; omega) (by rw [← HC.out]; exact HCL.out) (.inr (by rw [← HD.out]; exact hhi)))
                    go_wp2_with fail
                    go_ret
                    exact ⟨by rw [HRES.out]; rfl, HB.out⟩
                  · have d3 : decide (191 < (d : Int)) = false := decide_eq_false (by omega)
                    have d4 : decide (191 < d) = false := decide_eq_false hhi
                    go_wp2_with fail
                    go_loopw [8] (fun i wr => ∃ j : Nat, i = .int .i64 j ∧ 2 ≤ j ∧ j ≤ 3 ∧ Hid (∀ x, 2 ≤ x → x < j → 128 ≤ byte s (k + x) ∧ byte s (k + x) ≤ 191) ∧ Hid (Below w.heap.size w wr)) (fun i _ => 5 - (intOf i).toNat)
                    case atStart => exact ⟨2, rfl, Nat.le_refl _, by omega, fun x h1 h2 => by omega, HB⟩
                    case round =>
                      obtain ⟨j, rfl, hj2, hjn, HJ, HB3⟩ := hrel
                      by_cases hj : j ≤ 2
                      · have i2 : ∀ W, (Instr.index 9 (.string s) (.int .i64 ((k : Int) + (j : Int)))).run Tryd.prog W = .ok (.int .u8 ((byte s (k + j) : Nat) : Int)) W := HRB.out (k + j) (by omega)
                        have q6 : IntKind.i64.wrap ((k : Int) + (j : Int)) = (k : Int) + (j : Int) := IntWalk.i64_in _ (by omega)
                        obtain ⟨x, hx⟩ : ∃ x, x = byte s (k + j) := ⟨_, rfl⟩
                        have hx256 : x < 256 := by rw [hx]; exact byte_lt s _
                        rw [← hx] at i2
                        have hand := and_lead ⟨x, hx256⟩
                        have hbit : bits .and .u8 (x : Int) 192 = ((x &&& 192 : Nat) : Int) := u8_and_nat x 192 hx256 (by decide)
                        have HX := Lib.hid hx
                        clear hx
                        by_cases hok : 128 ≤ x ∧ x ≤ 191
                        · have hand2 : x &&& 192 = 128 := hand.2 hok
                          have HJ2 : Hid (∀ y, 2 ≤ y → y < j + 1 → 128 ≤ byte s (k + y) ∧ byte s (k + y) ≤ 191) := by
                            intro y h1 h2
                            rcases Nat.lt_or_ge y j with h3 | h3
                            · exact HJ.out y h1 h3
                            · obtain rfl : y = j := by omega
                              rw [← HX.out]; exact hok
                          have hb6 : (bits .and .u8 (x : Int) 192 != 128) = false := by rw [hbit, hand2]; rfl
                          clear hand hbit hand2 hok
                          go_wp2_with fail
                          go_roundw
                          case rel => exact ⟨j + 1, by go_num, by omega, by omega, HJ2, HB3⟩
                          case measure => simp [intOf]; omega
                        · have hand2 : ¬ x &&& 192 = 128 := fun e => hok (hand.1 e)
                          have hb6 : (bits .and .u8 (x : Int) 192 != 128) = true := by rw [hbit]; simp; omega
                          have HRES : Hid (Lib.validD s.data.toList = false) := HE.out.symm.trans (more_lead s k 2 128 191 j hlt (by rw [← HC.out]; omega) (by rw [← HC.out]; exact HCL.out) hj2 hj (by rw [← HX.out]; omega))
                          clear hand hbit hand2 hok
                          go_wp2_with fail
                          go_ret
                          exact ⟨by rw [HRES.out]; rfl, HB3.out⟩
                      · have HE2 : Hid (Lib.validD (s.data.toList.drop (k + 2 + 1)) = Lib.validD s.data.toList) := (good_lead s k 2 128 191 hlt (by rw [← HC.out]; omega) (by rw [← HC.out]; exact HCL.out) hsh (by rw [← HD.out]; omega) (fun y h1 h2 => HJ.out y h1 (by omega))).symm.trans HE.out
                        have q7 : IntKind.i64.wrap ((k : Int) + 2) = (k : Int) + 2 := IntWalk.i64_in _ (by omega)
                        have q8 : IntKind.i64.wrap ((k : Int) + 2 + 1) = (k : Int) + 2 + 1 := IntWalk.i64_in _ (by omega)
                        go_wp2_with fail
                        go_roundw
                        case rel => exact ⟨k + 2 + 1, by go_num, by omega, HE2, HB3⟩
                        case measure => simp [intOf]; omega
          · have HCL := Lib.hid hcl
            clear hcl
            have q1 : IntKind.i64.wrap ((s.size : Int) - (k : Int)) = (s.size : Int) - (k : Int) := IntWalk.i64_in _ (by omega)
            have q2 : IntKind.i64.wrap ((s.size : Int) - (k : Int) - 1) = (s.size : Int) - (k : Int) - 1 := IntWalk.i64_in _ (by omega)
            have q3 : IntKind.i64.wrap ((k : Int) + 1) = (k : Int) + 1 := IntWalk.i64_in _ (by omega)
            by_cases hsh : s.size - k < 3
            · have q4 : decide ((s.size : Int) - (k : Int) - 1 < 2) = true := decide_eq_true (by omega)
              have q5 : (s.size : Int) - (k : Int) - 1 < 2 := by omega
              have HRES : Hid (Lib.validD s.data.toList = false) := HE.out.symm.trans (short_lead s k 2 128 159 hlt (by rw [← HC.out]; omega) (by rw [← HC.out]; exact HCL.out) hsh)
              go_wp2_with fail
              go_ret
              exact ⟨by rw [HRES.out]; rfl, HB.out⟩
            · have q4 : decide ((s.size : Int) - (k : Int) - 1 < 2) = false := decide_eq_false (by omega)
              have q5 : ¬ (s.size : Int) - (k : Int) - 1 < 2 := by omega
              have i1 : ∀ W, (Instr.index 9 (.string s) (.int .i64 ((k : Int) + 1))).run Tryd.prog W = .ok (.int .u8 ((byte s (k + 1) : Nat) : Int)) W := HRB.out (k + 1) (by omega)
              obtain ⟨d, hd⟩ : ∃ d, d = byte s (k + 1) := ⟨_, rfl⟩
              have hd256 : d < 256 := by rw [hd]; exact byte_lt s _
              rw [← hd] at i1
              have HD := Lib.hid hd
              clear hd
              by_cases hlo : d < 128
              · have d1 : decide ((d : Int) < 128) = true := decide_eq_true (by omega)
                have d2 : decide (d < 128) = true := decide_eq_true hlo
                have HRES : Hid (Lib.validD s.data.toList = false) := HE.out.symm.trans (one_lead s k 2 128 159 hlt (by rw [← HC.out]; omega) (by rw [← HC.out]; exact HCL.out) (.inl (by rw [← HD.out]; exact hlo)))
                go_wp2_with fail
                go_ret
                exact ⟨by rw [HRES.out]; rfl, HB.out⟩
              · have d1 : decide ((d : Int) < 128) = false := decide_eq_false (by omega)
                have d2 : decide (d < 128) = false := decide_eq_false hlo
                by_cases hhi : 159 < d
                · have d3 : decide (159 < (d : Int)) = true := decide_eq_true (by omega)
                  have d4 : decide (159 < d) = true := decide_eq_true hhi
                  have HRES : Hid (Lib.validD s.data.toList = false) := HE.out.symm.trans (one_lead s k 2 128 159 hlt (by rw [← HC.out]; omega) (by rw [← HC.out]; exact HCL.out) (.inr (by rw [← HD.out]; exact hhi)))
                  go_wp2_with fail
                  go_ret
                  exact ⟨by rw [HRES.out]; rfl, HB.out⟩
                · have d3 : decide (159 < (d : Int)) = false := decide_eq_false (by omega)
                  have d4 : decide (159 < d) = false := decide_eq_false hhi
                  go_wp2_with fail
                  go_loopw [8] (fun i wr => ∃ j : Nat, i = .int .i64 j ∧ 2 ≤ j ∧ j ≤ 3 ∧ Hid (∀ x, 2 ≤ x → x < j → 128 ≤ byte s (k + x) ∧ byte s (k + x) ≤ 191) ∧ Hid (Below w.heap.size w wr)) (fun i _ => 5 - (intOf i).toNat)
                  case atStart => exact ⟨2, rfl, Nat.le_refl _, by omega, fun x h1 h2 => by omega, HB⟩
                  case round =>
                    obtain ⟨j, rfl, hj2, hjn, HJ, HB3⟩ := hrel
                    by_cases hj : j ≤ 2
                    · have i2 : ∀ W, (Instr.index 9 (.string s) (.int .i64 ((k : Int) + (j : Int)))).run Tryd.prog W = .ok (.int .u8 ((byte s (k + j) : Nat) : Int)) W := HRB.out (k + j) (by omega)
                      have q6 : IntKind.i64.wrap ((k : Int) + (j : Int)) = (k : Int) + (j : Int) := IntWalk.i64_in _ (by omega)
                      obtain ⟨x, hx⟩ : ∃ x, x = byte s (k + j) := ⟨_, rfl⟩
                      have hx256 : x < 256 := by rw [hx]; exact byte_lt s _
                      rw [← hx] at i2
                      have hand := and_lead ⟨x, hx256⟩
                      have hbit : bits .and .u8 (x : Int) 192 = ((x &&& 192 : Nat) : Int) := u8_and_nat x 192 hx256 (by decide)
                      have HX := Lib.hid hx
                      clear hx
                      by_cases hok : 128 ≤ x ∧ x ≤ 191
                      · have hand2 : x &&& 192 = 128 := hand.2 hok
                        have HJ2 : Hid (∀ y, 2 ≤ y → y < j + 1 → 128 ≤ byte s (k + y) ∧ byte s (k + y) ≤ 191) := by
                          intro y h1 h2
                          rcases Nat.lt_or_ge y j with h3 | h3
                          · exact HJ.out y h1 h3
                          · obtain rfl : y = j := by omega
                            rw [← HX.out]; exact hok
                        have hb6 : (bits .and .u8 (x : Int) 192 != 128) = false := by rw [hbit, hand2]; rfl
                        clear hand hbit hand2 hok
                        go_wp2_with fail
                        go_roundw
                        case rel => exact ⟨j + 1, by go_num, by omega, by omega, HJ2, HB3⟩
                        case measure => simp [intOf]; omega
                      · have hand2 : ¬ x &&& 192 = 128 := fun e => hok (hand.1 e)
                        have hb6 : (bits .and .u8 (x : Int) 192 != 128) = true := by rw [hbit]; simp; omega
                        have HRES : Hid (Lib.validD s.data.toList = false) := HE.out.symm.trans (more_lead s k 2 128 159 j hlt (by rw [← HC.out]; omega) (by rw [← HC.out]; exact HCL.out) hj2 hj (by rw [← HX.out]; omega))
                        clear hand hbit hand2 hok
                        go_wp2_with fail
                        go_ret
                        exact ⟨by rw [HRES.out]; rfl, HB3.out⟩
                    · have HE2 : Hid (Lib.validD (s.data.toList.drop (k + 2 + 1)) = Lib.validD s.data.toList) := (good_lead s k 2 128 159 hlt (by rw [← HC.out]; omega) (by rw [← HC.out]; exact HCL.out) hsh (by rw [← HD.out]; omega) (fun y h1 h2 => HJ.out y h1 (by omega))).symm.trans HE.out
                      have q7 : IntKind.i64.wrap ((k : Int) + 2) = (k : Int) + 2 := IntWalk.i64_in _ (by omega)
                      have q8 : IntKind.i64.wrap ((k : Int) + 2 + 1) = (k : Int) + 2 + 1 := IntWalk.i64_in _ (by omega)
                      go_wp2_with fail
                      go_roundw
                      case rel => exact ⟨k + 2 + 1, by go_num, by omega, HE2, HB3⟩
                      case measure => simp [intOf]; omega
          · have HCL := Lib.hid hcl
            clear hcl
            have q1 : IntKind.i64.wrap ((s.size : Int) - (k : Int)) = (s.size : Int) - (k : Int) := IntWalk.i64_in _ (by omega)
            have q2 : IntKind.i64.wrap ((s.size : Int) - (k : Int) - 1) = (s.size : Int) - (k : Int) - 1 := IntWalk.i64_in _ (by omega)
            have q3 : IntKind.i64.wrap ((k : Int) + 1) = (k : Int) + 1 := IntWalk.i64_in _ (by omega)
            by_cases hsh : s.size - k < 4
            · have q4 : decide ((s.size : Int) - (k : Int) - 1 < 3) = true := decide_eq_true (by omega)
              have q5 : (s.size : Int) - (k : Int) - 1 < 3 := by omega
              have HRES : Hid (Lib.validD s.data.toList = false) := HE.out.symm.trans (short_lead s k 3 144 191 hlt (by rw [← HC.out]; omega) (by rw [← HC.out]; exact HCL.out) hsh)
              go_wp2_with fail
              go_ret
              exact ⟨by rw [HRES.out]; rfl, HB.out⟩
            · have q4 : decide ((s.size : Int) - (k : Int) - 1 < 3) = false := decide_eq_false (by omega)
              have q5 : ¬ (s.size : Int) - (k : Int) - 1 < 3 := by omega
              have i1 : ∀ W, (Instr.index 9 (.string s) (.int .i64 ((k : Int) + 1))).run Tryd.prog W = .ok (.int .u8 ((byte s (k + 1) : Nat) : Int)) W := HRB.out (k + 1) (by omega)
              obtain ⟨d, hd⟩ : ∃ d, d = byte s (k + 1) := ⟨_, rfl⟩
              have hd256 : d < 256 := by rw [hd]; exact byte_lt s _
              rw [← hd] at i1
              have HD := Lib.hid hd
              clear hd
              by_cases hlo : d < 144
              · have d1 : decide ((d : Int) < 144) = true := decide_eq_true (by omega)
                have d2 : decide (d < 144) = true := decide_eq_true hlo
                have HRES : Hid (Lib.validD s.data.toList = false) := HE.out.symm.trans (one_lead s k 3 144 191 hlt (by rw [← HC.out]; omega) (by rw [← HC.out]; exact HCL.out) (.inl (by rw [← HD.out]; exact hlo)))
                go_wp2_with fail
                go_ret
                exact ⟨by rw [HRES.out]; rfl, HB.out⟩
              · have d1 : decide ((d : Int) < 144) = false := decide_eq_false (by omega)
                have d2 : decide (d < 144) = false := decide_eq_false hlo
                by_cases hhi : 191 < d
                · have d3 : decide (191 < (d : Int)) = true := decide_eq_true (by omega)
                  have d4 : decide (191 < d) = true := decide_eq_true hhi
                  have HRES : Hid (Lib.validD s.data.toList = false) := HE.out.symm.trans (one_lead s k 3 144 191 hlt (by rw [← HC.out]; omega) (by rw [← HC.out]; exact HCL.out) (.inr (by rw [← HD.out]; exact hhi)))
                  go_wp2_with fail
                  go_ret
                  exact ⟨by rw [HRES.out]; rfl, HB.out⟩
                · have d3 : decide (191 < (d : Int)) = false := decide_eq_false (by omega)
                  have d4 : decide (191 < d) = false := decide_eq_false hhi
                  go_wp2_with fail
                  go_loopw [8] (fun i wr => ∃ j : Nat, i = .int .i64 j ∧ 2 ≤ j ∧ j ≤ 4 ∧ Hid (∀ x, 2 ≤ x → x < j → 128 ≤ byte s (k + x) ∧ byte s (k + x) ≤ 191) ∧ Hid (Below w.heap.size w wr)) (fun i _ => 5 - (intOf i).toNat)
                  case atStart => exact ⟨2, rfl, Nat.le_refl _, by omega, fun x h1 h2 => by omega, HB⟩
                  case round =>
                    obtain ⟨j, rfl, hj2, hjn, HJ, HB3⟩ := hrel
                    by_cases hj : j ≤ 3
                    · have i2 : ∀ W, (Instr.index 9 (.string s) (.int .i64 ((k : Int) + (j : Int)))).run Tryd.prog W = .ok (.int .u8 ((byte s (k + j) : Nat) : Int)) W := HRB.out (k + j) (by omega)
                      have q6 : IntKind.i64.wrap ((k : Int) + (j : Int)) = (k : Int) + (j : Int) := IntWalk.i64_in _ (by omega)
                      obtain ⟨x, hx⟩ : ∃ x, x = byte s (k + j) := ⟨_, rfl⟩
                      have hx256 : x < 256 := by rw [hx]; exact byte_lt s _
                      rw [← hx] at i2
                      have hand := and_lead ⟨x, hx256⟩
                      have hbit : bits .and .u8 (x : Int) 192 = ((x &&& 192 : Nat) : Int) := u8_and_nat x 192 hx256 (by decide)
                      have HX := Lib.hid hx
                      clear hx
                      by_cases hok : 128 ≤ x ∧ x ≤ 191
                      · have hand2 : x &&& 192 = 128 := hand.2 hok
                        have HJ2 : Hid (∀ y, 2 ≤ y → y < j + 1 → 128 ≤ byte s (k + y) ∧ byte s (k + y) ≤ 191) := by
                          intro y h1 h2
                          rcases Nat.lt_or_ge y j with h3 | h3
                          · exact HJ.out y h1 h3
                          · obtain rfl : y = j := by omega
                            rw [← HX.out]; exact hok
                        have hb6 : (bits .and .u8 (x : Int) 192 != 128) = false := by rw [hbit, hand2]; rfl
                        clear hand hbit hand2 hok
                        go_wp2_with fail
                        go_roundw
                        case rel => exact ⟨j + 1, by go_num, by omega, by omega, HJ2, HB3⟩
                        case measure => simp [intOf]; omega
                      · have hand2 : ¬ x &&& 192 = 128 := fun e => hok (hand.1 e)
                        have hb6 : (bits .and .u8 (x : Int) 192 != 128) = true := by rw [hbit]; simp; omega
                        have HRES : Hid (Lib.validD s.data.toList = false) := HE.out.symm.trans (more_lead s k 3 144 191 j hlt (by rw [← HC.out]; omega) (by rw [← HC.out]; exact HCL.out) hj2 hj (by rw [← HX.out]; omega))
                        clear hand hbit hand2 hok
                        go_wp2_with fail
                        go_ret
                        exact ⟨by rw [HRES.out]; rfl, HB3.out⟩
                    · have HE2 : Hid (Lib.validD (s.data.toList.drop (k + 3 + 1)) = Lib.validD s.data.toList) := (good_lead s k 3 144 191 hlt (by rw [← HC.out]; omega) (by rw [← HC.out]; exact HCL.out) hsh (by rw [← HD.out]; omega) (fun y h1 h2 => HJ.out y h1 (by omega))).symm.trans HE.out
                      have q7 : IntKind.i64.wrap ((k : Int) + 3) = (k : Int) + 3 := IntWalk.i64_in _ (by omega)
                      have q8 : IntKind.i64.wrap ((k : Int) + 3 + 1) = (k : Int) + 3 + 1 := IntWalk.i64_in _ (by omega)
                      go_wp2_with fail
                      go_roundw
                      case rel => exact ⟨k + 3 + 1, by go_num, by omega, HE2, HB3⟩
                      case measure => simp [intOf]; omega
          · have HCL := Lib.hid hcl
            clear hcl
            have q1 : IntKind.i64.wrap ((s.size : Int) - (k : Int)) = (s.size : Int) - (k : Int) := IntWalk.i64_in _ (by omega)
            have q2 : IntKind.i64.wrap ((s.size : Int) - (k : Int) - 1) = (s.size : Int) - (k : Int) - 1 := IntWalk.i64_in _ (by omega)
            have q3 : IntKind.i64.wrap ((k : Int) + 1) = (k : Int) + 1 := IntWalk.i64_in _ (by omega)
            by_cases hsh : s.size - k < 4
            · have q4 : decide ((s.size : Int) - (k : Int) - 1 < 3) = true := decide_eq_true (by omega)
              have q5 : (s.size : Int) - (k : Int) - 1 < 3 := by omega
              have HRES : Hid (Lib.validD s.data.toList = false) := HE.out.symm.trans (short_lead s k 3 128 191 hlt (by rw [← HC.out]; omega) (by rw [← HC.out]; exact HCL.out) hsh)
              go_wp2_with fail
              go_ret
              exact ⟨by rw [HRES.out]; rfl, HB.out⟩
            · have q4 : decide ((s.size : Int) - (k : Int) - 1 < 3) = false := decide_eq_false (by omega)
              have q5 : ¬ (s.size : Int) - (k : Int) - 1 < 3 := by omega
              have i1 : ∀ W, (Instr.index 9 (.string s) (.int .i64 ((k : Int) + 1))).run Tryd.prog W = .ok (.int .u8 ((byte s (k + 1) : Nat) : Int)) W := HRB.out (k + 1) (by omega)
              obtain ⟨d, hd⟩ : ∃ d, d = byte s (k + 1) := ⟨_, rfl⟩
              have hd256 : d < 256 := by rw [hd]; exact byte_lt s _
              rw [← hd] at i1
              have HD := Lib.hid hd
              clear hd
              by_cases hlo : d < 128
              · have d1 : decide ((d : Int) < 128) = true := decide_eq_true (by omega)
                have d2 : decide (d < 128) = true := decide_eq_true hlo
                have HRES : Hid (Lib.validD s.data.toList = false) := HE.out.symm.trans (one_lead s k 3 128 191 hlt (by rw [← HC.out]; omega) (by rw [← HC.out]; exact HCL.out) (.inl (by rw [← HD.out]; exact hlo)))
                go_wp2_with fail
                go_ret
                exact ⟨by rw [HRES.out]; rfl, HB.out⟩
              · have d1 : decide ((d : Int) < 128) = false := decide_eq_false (by omega)
                have d2 : decide (d < 128) = false := decide_eq_false hlo
                by_cases hhi : 191 < d
                · have d3 : decide (191 < (d : Int)) = true := decide_eq_true (by omega)
                  have d4 : decide (191 < d) = true := decide_eq_true hhi
                  have HRES : Hid (Lib.validD s.data.toList = false) := HE.out.symm.trans (one_lead s k 3 128 191 hlt (by rw [← HC.out]; omega) (by rw [← HC.out]; exact HCL.out) (.inr (by rw [← HD.out]; exact hhi)))
                  go_wp2_with fail
                  go_ret
                  exact ⟨by rw [HRES.out]; rfl, HB.out⟩
                · have d3 : decide (191 < (d : Int)) = false := decide_eq_false (by omega)
                  have d4 : decide (191 < d) = false := decide_eq_false hhi
                  go_wp2_with fail
                  go_loopw [8] (fun i wr => ∃ j : Nat, i = .int .i64 j ∧ 2 ≤ j ∧ j ≤ 4 ∧ Hid (∀ x, 2 ≤ x → x < j → 128 ≤ byte s (k + x) ∧ byte s (k + x) ≤ 191) ∧ Hid (Below w.heap.size w wr)) (fun i _ => 5 - (intOf i).toNat)
                  case atStart => exact ⟨2, rfl, Nat.le_refl _, by omega, fun x h1 h2 => by omega, HB⟩
                  case round =>
                    obtain ⟨j, rfl, hj2, hjn, HJ, HB3⟩ := hrel
                    by_cases hj : j ≤ 3
                    · have i2 : ∀ W, (Instr.index 9 (.string s) (.int .i64 ((k : Int) + (j : Int)))).run Tryd.prog W = .ok (.int .u8 ((byte s (k + j) : Nat) : Int)) W := HRB.out (k + j) (by omega)
                      have q6 : IntKind.i64.wrap ((k : Int) + (j : Int)) = (k : Int) + (j : Int) := IntWalk.i64_in _ (by omega)
                      obtain ⟨x, hx⟩ : ∃ x, x = byte s (k + j) := ⟨_, rfl⟩
                      have hx256 : x < 256 := by rw [hx]; exact byte_lt s _
                      rw [← hx] at i2
                      have hand := and_lead ⟨x, hx256⟩
                      have hbit : bits .and .u8 (x : Int) 192 = ((x &&& 192 : Nat) : Int) := u8_and_nat x 192 hx256 (by decide)
                      have HX := Lib.hid hx
                      clear hx
                      by_cases hok : 128 ≤ x ∧ x ≤ 191
                      · have hand2 : x &&& 192 = 128 := hand.2 hok
                        have HJ2 : Hid (∀ y, 2 ≤ y → y < j + 1 → 128 ≤ byte s (k + y) ∧ byte s (k + y) ≤ 191) := by
                          intro y h1 h2
                          rcases Nat.lt_or_ge y j with h3 | h3
                          · exact HJ.out y h1 h3
                          · obtain rfl : y = j := by omega
                            rw [← HX.out]; exact hok
                        have hb6 : (bits .and .u8 (x : Int) 192 != 128) = false := by rw [hbit, hand2]; rfl
                        clear hand hbit hand2 hok
                        go_wp2_with fail
                        go_roundw
                        case rel => exact ⟨j + 1, by go_num, by omega, by omega, HJ2, HB3⟩
                        case measure => simp [intOf]; omega
                      · have hand2 : ¬ x &&& 192 = 128 := fun e => hok (hand.1 e)
                        have hb6 : (bits .and .u8 (x : Int) 192 != 128) = true := by rw [hbit]; simp; omega
                        have HRES : Hid (Lib.validD s.data.toList = false) := HE.out.symm.trans (more_lead s k 3 128 191 j hlt (by rw [← HC.out]; omega) (by rw [← HC.out]; exact HCL.out) hj2 hj (by rw [← HX.out]; omega))
                        clear hand hbit hand2 hok
                        go_wp2_with fail
                        go_ret
                        exact ⟨by rw [HRES.out]; rfl, HB3.out⟩
                    · have HE2 : Hid (Lib.validD (s.data.toList.drop (k + 3 + 1)) = Lib.validD s.data.toList) := (good_lead s k 3 128 191 hlt (by rw [← HC.out]; omega) (by rw [← HC.out]; exact HCL.out) hsh (by rw [← HD.out]; omega) (fun y h1 h2 => HJ.out y h1 (by omega))).symm.trans HE.out
                      have q7 : IntKind.i64.wrap ((k : Int) + 3) = (k : Int) + 3 := IntWalk.i64_in _ (by omega)
                      have q8 : IntKind.i64.wrap ((k : Int) + 3 + 1) = (k : Int) + 3 + 1 := IntWalk.i64_in _ (by omega)
                      go_wp2_with fail
                      go_roundw
                      case rel => exact ⟨k + 3 + 1, by go_num, by omega, HE2, HB3⟩
                      case measure => simp [intOf]; omega
          · have HCL := Lib.hid hcl
            clear hcl
            have q1 : IntKind.i64.wrap ((s.size : Int) - (k : Int)) = (s.size : Int) - (k : Int) := IntWalk.i64_in _ (by omega)
            have q2 : IntKind.i64.wrap ((s.size : Int) - (k : Int) - 1) = (s.size : Int) - (k : Int) - 1 := IntWalk.i64_in _ (by omega)
            have q3 : IntKind.i64.wrap ((k : Int) + 1) = (k : Int) + 1 := IntWalk.i64_in _ (by omega)
            by_cases hsh : s.size - k < 4
            · have q4 : decide ((s.size : Int) - (k : Int) - 1 < 3) = true := decide_eq_true (by omega)
              have q5 : (s.size : Int) - (k : Int) - 1 < 3 := by omega
              have HRES : Hid (Lib.validD s.data.toList = false) := HE.out.symm.trans (short_lead s k 3 128 143 hlt (by rw [← HC.out]; omega) (by rw [← HC.out]; exact HCL.out) hsh)
              go_wp2_with fail
              go_ret
              exact ⟨by rw [HRES.out]; rfl, HB.out⟩
            · have q4 : decide ((s.size : Int) - (k : Int) - 1 < 3) = false := decide_eq_false (by omega)
              have q5 : ¬ (s.size : Int) - (k : Int) - 1 < 3 := by omega
              have i1 : ∀ W, (Instr.index 9 (.string s) (.int .i64 ((k : Int) + 1))).run Tryd.prog W = .ok (.int .u8 ((byte s (k + 1) : Nat) : Int)) W := HRB.out (k + 1) (by omega)
              obtain ⟨d, hd⟩ : ∃ d, d = byte s (k + 1) := ⟨_, rfl⟩
              have hd256 : d < 256 := by rw [hd]; exact byte_lt s _
              rw [← hd] at i1
              have HD := Lib.hid hd
              clear hd
              by_cases hlo : d < 128
              · have d1 : decide ((d : Int) < 128) = true := decide_eq_true (by omega)
                have d2 : decide (d < 128) = true := decide_eq_true hlo
                have HRES : Hid (Lib.validD s.data.toList = false) := HE.out.symm.trans (one_lead s k 3 128 143 hlt (by rw [← HC.out]; omega) (by rw [← HC.out]; exact HCL.out) (.inl (by rw [← HD.out]; exact hlo)))
                go_wp2_with fail
                go_ret
                exact ⟨by rw [HRES.out]; rfl, HB.out⟩
              · have d1 : decide ((d : Int) < 128) = false := decide_eq_false (by omega)
                have d2 : decide (d < 128) = false := decide_eq_false hlo
                by_cases hhi : 143 < d
                · have d3 : decide (143 < (d : Int)) = true := decide_eq_true (by omega)
                  have d4 : decide (143 < d) = true := decide_eq_true hhi
                  have HRES : Hid (Lib.validD s.data.toList = false) := HE.out.symm.trans (one_lead s k 3 128 143 hlt (by rw [← HC.out]; omega) (by rw [← HC.out]; exact HCL.out) (.inr (by rw [← HD.out]; exact hhi)))
                  go_wp2_with fail
                  go_ret
                  exact ⟨by rw [HRES.out]; rfl, HB.out⟩
                · have d3 : decide (143 < (d : Int)) = false := decide_eq_false (by omega)
                  have d4 : decide (143 < d) = false := decide_eq_false hhi
                  go_wp2_with fail
                  go_loopw [8] (fun i wr => ∃ j : Nat, i = .int .i64 j ∧ 2 ≤ j ∧ j ≤ 4 ∧ Hid (∀ x, 2 ≤ x → x < j → 128 ≤ byte s (k + x) ∧ byte s (k + x) ≤ 191) ∧ Hid (Below w.heap.size w wr)) (fun i _ => 5 - (intOf i).toNat)
                  case atStart => exact ⟨2, rfl, Nat.le_refl _, by omega, fun x h1 h2 => by omega, HB⟩
                  case round =>
                    obtain ⟨j, rfl, hj2, hjn, HJ, HB3⟩ := hrel
                    by_cases hj : j ≤ 3
                    · have i2 : ∀ W, (Instr.index 9 (.string s) (.int .i64 ((k : Int) + (j : Int)))).run Tryd.prog W = .ok (.int .u8 ((byte s (k + j) : Nat) : Int)) W := HRB.out (k + j) (by omega)
                      have q6 : IntKind.i64.wrap ((k : Int) + (j : Int)) = (k : Int) + (j : Int) := IntWalk.i64_in _ (by omega)
                      obtain ⟨x, hx⟩ : ∃ x, x = byte s (k + j) := ⟨_, rfl⟩
                      have hx256 : x < 256 := by rw [hx]; exact byte_lt s _
                      rw [← hx] at i2
                      have hand := and_lead ⟨x, hx256⟩
                      have hbit : bits .and .u8 (x : Int) 192 = ((x &&& 192 : Nat) : Int) := u8_and_nat x 192 hx256 (by decide)
                      have HX := Lib.hid hx
                      clear hx
                      by_cases hok : 128 ≤ x ∧ x ≤ 191
                      · have hand2 : x &&& 192 = 128 := hand.2 hok
                        have HJ2 : Hid (∀ y, 2 ≤ y → y < j + 1 → 128 ≤ byte s (k + y) ∧ byte s (k + y) ≤ 191) := by
                          intro y h1 h2
                          rcases Nat.lt_or_ge y j with h3 | h3
                          · exact HJ.out y h1 h3
                          · obtain rfl : y = j := by omega
                            rw [← HX.out]; exact hok
                        have hb6 : (bits .and .u8 (x : Int) 192 != 128) = false := by rw [hbit, hand2]; rfl
                        clear hand hbit hand2 hok
                        go_wp2_with fail
                        go_roundw
                        case rel => exact ⟨j + 1, by go_num, by omega, by omega, HJ2, HB3⟩
                        case measure => simp [intOf]; omega
                      · have hand2 : ¬ x &&& 192 = 128 := fun e => hok (hand.1 e)
                        have hb6 : (bits .and .u8 (x : Int) 192 != 128) = true := by rw [hbit]; simp; omega
                        have HRES : Hid (Lib.validD s.data.toList = false) := HE.out.symm.trans (more_lead s k 3 128 143 j hlt (by rw [← HC.out]; omega) (by rw [← HC.out]; exact HCL.out) hj2 hj (by rw [← HX.out]; omega))
                        clear hand hbit hand2 hok
                        go_wp2_with fail
                        go_ret
                        exact ⟨by rw [HRES.out]; rfl, HB3.out⟩
                    · have HE2 : Hid (Lib.validD (s.data.toList.drop (k + 3 + 1)) = Lib.validD s.data.toList) := (good_lead s k 3 128 143 hlt (by rw [← HC.out]; omega) (by rw [← HC.out]; exact HCL.out) hsh (by rw [← HD.out]; omega) (fun y h1 h2 => HJ.out y h1 (by omega))).symm.trans HE.out
                      have q7 : IntKind.i64.wrap ((k : Int) + 3) = (k : Int) + 3 := IntWalk.i64_in _ (by omega)
                      have q8 : IntKind.i64.wrap ((k : Int) + 3 + 1) = (k : Int) + 3 + 1 := IntWalk.i64_in _ (by omega)
                      go_wp2_with fail
                      go_roundw
                      case rel => exact ⟨k + 3 + 1, by go_num, by omega, HE2, HB3⟩
                      case measure => simp [intOf]; omega
    · have hkk : k = s.size := by omega
      have HRES : Hid (Lib.validD s.data.toList = true) := by
        have := HE.out
        rw [List.drop_eq_nil_of_le (by rw [len_list]; omega)] at this
        exact this.symm
      go_wp2_with fail
      go_ret
      exact ⟨by rw [HRES.out]; rfl, HB.out⟩
end Go.Proofs.YtpiookgkkaafeaaDoor
end
section
namespace Go.Proofs.YtpiookgkkaafeaaDoor
open Go.RowKit
open Seal
open Path
/-- The tables of utf8, and strings' package variable, as they are read. -/
structure Ground (w : World) : Prop where
  tabs : Lib.Utf8Tabs 0 1 w
  most : ∃ m, w.cell? ⟨2, 0, none⟩ = some (.int .i64 m)
theorem Ground.keep {w w' : World} (h : Ground w) (hb : Below w.heap.size w w') : Ground w' := by
  obtain ⟨h1, m, h2⟩ := h
  exact ⟨⟨fun c hc => cell_keep hb (h1.1 c hc), fun i hi => ⟨cell_keep hb (h1.2 i hi).1, cell_keep hb (h1.2 i hi).2⟩⟩, m, cell_keep hb h2⟩
end Go.Proofs.YtpiookgkkaafeaaDoor
end
section
namespace Go.Proofs.YtpiookgkkaafeaaDoor
open Go.RowKit
open Seal
open Path
namespace Path
/-- Names as texts. -/
def names (l : List (List UInt8)) : List ByteArray := l.map fun x => ⟨x.toArray⟩
/-- What the loop of Parse holds: the names so far, and what is left, if there is more. -/
def PRest (l : List UInt8) (done : List (List UInt8)) (rest : ByteArray) (more : Bool) : Prop := split l = done ++ (if more then split rest.data.toList else []) ∧ done.all may = true ∧ done.length ≤ 16
theorem PRest.done {l : List UInt8} {done : List (List UInt8)} {rest : ByteArray} (h : PRest l done rest false) : parse l = some done := by
  obtain ⟨h1, h2, h3⟩ := h
  simp only [Bool.false_eq_true, if_false, List.append_nil] at h1
  unfold parse
  rw [h1, if_pos ⟨h2, h3⟩]
end Path
/-- A slice of texts. -/
def NamesAt (w : World) (v : Value) (p : List ByteArray) : Prop := ∃ a c, v = .slice a p.length c ∧ p.length ≤ c ∧ c ≤ 9223372036854775807 ∧ StrsIn w a p
end Go.Proofs.YtpiookgkkaafeaaDoor
end
section
namespace Go.Proofs.YtpiookgkkaafeaaDoor
open Go.RowKit
open Seal
open Path
namespace Path
end Path
/-- The rows are the same just if they are alike. -/
def NamesIn (w : World) (v : Value) (p : List ByteArray) : Prop := ∃ a n c, v = .slice a n c ∧ n = p.length ∧ n ≤ 9223372036854775807 ∧ StrsIn w a p
theorem NamesAt.in {w : World} {v : Value} {p : List ByteArray} (h : NamesAt w v p) : NamesIn w v p := by
  obtain ⟨a, c, rfl, h1, h2, h3⟩ := h
  exact ⟨a, _, c, rfl, rfl, by omega, h3⟩
theorem NamesIn.keep {w w' : World} {v : Value} {p : List ByteArray} (h : NamesIn w v p) (hb : Below w.heap.size w w') : NamesIn w' v p := by
  obtain ⟨a, n, c, e, h1, h2, h3⟩ := h
  exact ⟨a, n, c, e, h1, h2, h3.keep hb⟩
end Go.Proofs.YtpiookgkkaafeaaDoor
end
section
namespace Go.Proofs.YtpiookgkkaafeaaDoor
open Go.RowKit
open Seal
open Path
namespace Path
/-- What the loop of ParsePath holds: the names so far; the place where the name begins that is being read; the place. -/
def Scan (l : List UInt8) (done : List (List UInt8)) (a i : Nat) : Prop :=
  a ≤ i ∧ done.all may = true ∧ done.length ≤ 16 ∧ ((i ≤ l.length ∧ split l = done ++ split (l.drop a) ∧ 46 ∉ (l.take i).drop a) ∨ (i = l.length + 1 ∧ a = i ∧ split l = done))
theorem Scan.name {l : List UInt8} {done : List (List UInt8)} {a i : Nat} (h : Scan l done a i) (hi : i ≤ l.length) (hc : ∀ h : i < l.length, l[i] = 46) :
    ∃ more, split l = done ++ ((l.take i).drop a) :: more ∧ (i = l.length → more = []) ∧ (i < l.length → more = split (l.drop (i + 1))) := by
  obtain ⟨h1, h2, h3, ⟨h4, h5, h6⟩ | ⟨h4, h5, h6⟩⟩ := h
  · rcases Nat.lt_or_ge i l.length with hlt | hge
    · have e : l.drop a = (l.take i).drop a ++ 46 :: l.drop (i + 1) := by
        have e1 : l = l.take i ++ l.drop i := (List.take_append_drop i l).symm
        have e2 : l.drop i = 46 :: l.drop (i + 1) := by rw [List.drop_eq_getElem_cons hlt, hc hlt]
        conv => lhs; rw [e1, List.drop_append_of_le_length (by simp; omega), e2]
      refine ⟨split (l.drop (i + 1)), ?_, fun e => by omega, fun _ => rfl⟩
      rw [h5, e, split_cut _ _ h6]
    · have e : (l.take i).drop a = l.drop a := by rw [List.take_of_length_le (by omega)]
      refine ⟨[], ?_, fun _ => rfl, fun e => by omega⟩
      rw [h5, ← e, split_free _ h6]
  · omega
theorem Scan.push {l : List UInt8} {done : List (List UInt8)} {a i : Nat} (h : Scan l done a i) (hi : i ≤ l.length) (hc : ∀ h : i < l.length, l[i] = 46) (hm : may ((l.take i).drop a) = true) (hd : done.length < 16) :
    Scan l (done ++ [(l.take i).drop a]) (i + 1) (i + 1) := by
  obtain ⟨more, h1, h2, h3⟩ := h.name hi hc
  refine ⟨Nat.le_refl _, by rw [List.all_append, h.2.1]; simp [hm], by simp; omega, ?_⟩
  rcases Nat.lt_or_ge i l.length with hlt | hge
  · refine .inl ⟨by omega, by rw [h1, h3 hlt, List.append_assoc]; rfl, ?_⟩
    rw [List.drop_of_length_le (by simp; omega)]; simp
  · exact .inr ⟨by omega, rfl, by rw [h1, h2 (by omega)]⟩
theorem Scan.done {l : List UInt8} {done : List (List UInt8)} {a i : Nat} (h : Scan l done a i) (hi : l.length < i) : parse l = some done := by
  obtain ⟨h1, h2, h3, ⟨h4, h5, h6⟩ | ⟨h4, h5, h6⟩⟩ := h
  · omega
  · unfold parse; rw [h6, if_pos ⟨h2, h3⟩]
end Path
end Go.Proofs.YtpiookgkkaafeaaDoor
end
section
namespace Go.Proofs.YtpiookgkkaafeaaDoor
open Go.RowKit
open Seal
open Bson (Val)
end Go.Proofs.YtpiookgkkaafeaaDoor
end
section
namespace Go.Proofs.YtpiookgkkaafeaaDoor
open Go.RowKit
open Seal
open Path
open Bson (Val)
namespace Path
end Path
end Go.Proofs.YtpiookgkkaafeaaDoor
end
section
namespace Go.Proofs.YtpiookgkkaafeaaDoor
open Go.RowKit
open Seal
open Path
end Go.Proofs.YtpiookgkkaafeaaDoor
end
section
namespace Go.Proofs.YtpiookgkkaafeaaDoor
open Go.RowKit
open Seal
open Path
namespace Path
end Path
end Go.Proofs.YtpiookgkkaafeaaDoor
end
section
namespace Go.Proofs.YtpiookgkkaafeaaDoor
open Go.RowKit
open Seal
open Path
namespace Path
theorem app_list (a b : ByteArray) : (a ++ b).data.toList = a.data.toList ++ b.data.toList := by simp
end Path
end Go.Proofs.YtpiookgkkaafeaaDoor
end
section
namespace Go.Proofs.YtpiookgkkaafeaaDoor
open Go.RowKit
open Seal
open Bson (Val)
/-- Bytes, as many as the slice says, in blocks that Q names. -/
def BytesAt (w : World) (Q : Nat → Prop) (v : Value) (n : Nat) : Prop := ∃ a c l, v = .slice a n c ∧ l.length = n ∧ Oct l ∧ BytesIn w Q a l
theorem owns_bytes {w : World} {base : Nat} {v : Value} {n : Nat} {l : List Nat} (h : w.ownsRow base 5 1 v n (u8s l)) (ho : Oct l) : BytesAt w (fun g => base ≤ g) v n := by
  obtain ⟨hxl, ⟨rfl, hn⟩ | ⟨g, cap, cur, rfl, hbg, hrow, hc, hm, hsz, htake⟩⟩ := h
  · subst hn
    have : l = [] := List.eq_nil_of_length_eq_zero (by simpa [u8s] using hxl)
    subst this
    exact ⟨none, 0, [], rfl, rfl, ho, .inl rfl⟩
  · have hl : l.length = n := by simpa [u8s] using hxl
    refine ⟨some ⟨g, 0, none⟩, cap, l, rfl, hl, ho, .inr ⟨g, 0, rfl, hbg, fun j hj => ?_⟩⟩
    rw [Nat.zero_add, cell_of_row w g j _ _ _ hrow, ← Array.getElem?_toList]
    have e : cur.toList[j]? = (u8s l)[j]? := by rw [← htake, List.getElem?_take_of_lt (by omega)]
    rw [e]
    simp [u8s, Go.Proofs.YtpiookgkkaafeaaDoor.u8, List.getElem?_eq_getElem hj, List.getD_eq_getElem?_getD]
end Go.Proofs.YtpiookgkkaafeaaDoor
end
section
namespace Go.Proofs.YtpiookgkkaafeaaDoor
open Go.RowKit
open Seal
open Bson (Val)
theorem Path.ext_list {s t : ByteArray} (h : s.data.toList = t.data.toList) : s = t := by
  cases s; cases t
  congr 1
  exact Array.toList_inj.1 h
set_option maxRecDepth 100000 in
set_option maxHeartbeats 1000000 in
theorem code_x (k : Int) (w : World) : Calls Tryd.prog 64 #[.int .i64 k] w fun e w' => e = .returned (.int .u8 (Bson.code k : Nat)) ∧ w' = w := by
  by_cases h1 : k = 1
  · subst h1; go_enter Tryd.func64, Tryd.ntmps64
    go_wp2_with fail
    go_ret
    exact ⟨rfl, rfl⟩
  by_cases h2 : k = 2
  · subst h2; go_enter Tryd.func64, Tryd.ntmps64
    go_wp2_with fail
    go_ret
    exact ⟨rfl, rfl⟩
  by_cases h3 : k = 3
  · subst h3; go_enter Tryd.func64, Tryd.ntmps64
    go_wp2_with fail
    go_ret
    exact ⟨rfl, rfl⟩
  by_cases h4 : k = 4
  · subst h4; go_enter Tryd.func64, Tryd.ntmps64
    go_wp2_with fail
    go_ret
    exact ⟨rfl, rfl⟩
  by_cases h5 : k = 5
  · subst h5; go_enter Tryd.func64, Tryd.ntmps64
    go_wp2_with fail
    go_ret
    exact ⟨rfl, rfl⟩
  by_cases h6 : k = 6
  · subst h6; go_enter Tryd.func64, Tryd.ntmps64
    go_wp2_with fail
    go_ret
    exact ⟨rfl, rfl⟩
  by_cases h7 : k = 7
  · subst h7; go_enter Tryd.func64, Tryd.ntmps64
    go_wp2_with fail
    go_ret
    exact ⟨rfl, rfl⟩
  by_cases h8 : k = 8
  · subst h8; go_enter Tryd.func64, Tryd.ntmps64
    go_wp2_with fail
    go_ret
    exact ⟨rfl, rfl⟩
  by_cases h9 : k = 9
  · subst h9; go_enter Tryd.func64, Tryd.ntmps64
    go_wp2_with fail
    go_ret
    exact ⟨rfl, rfl⟩
  by_cases h10 : k = 10
  · subst h10; go_enter Tryd.func64, Tryd.ntmps64
    go_wp2_with fail
    go_ret
    exact ⟨rfl, rfl⟩
  by_cases h11 : k = 11
  · subst h11; go_enter Tryd.func64, Tryd.ntmps64
    go_wp2_with fail
    go_ret
    exact ⟨rfl, rfl⟩
  by_cases h12 : k = 12
  · subst h12; go_enter Tryd.func64, Tryd.ntmps64
    go_wp2_with fail
    go_ret
    exact ⟨rfl, rfl⟩
  have b1 : (k == 1) = false := by simpa using h1
  have b2 : (k == 2) = false := by simpa using h2
  have b3 : (k == 3) = false := by simpa using h3
  have b4 : (k == 4) = false := by simpa using h4
  have b5 : (k == 5) = false := by simpa using h5
  have b6 : (k == 6) = false := by simpa using h6
  have b7 : (k == 7) = false := by simpa using h7
  have b8 : (k == 8) = false := by simpa using h8
  have b9 : (k == 9) = false := by simpa using h9
  have b10 : (k == 10) = false := by simpa using h10
  have b11 : (k == 11) = false := by simpa using h11
  have b12 : (k == 12) = false := by simpa using h12
  go_enter Tryd.func64, Tryd.ntmps64
  go_wp2_with fail
  go_ret
  exact ⟨by rw [Bson.code, if_neg h1, if_neg h2, if_neg h3, if_neg h4, if_neg h5, if_neg h6, if_neg h7, if_neg h8, if_neg h9, if_neg h10, if_neg h11, if_neg h12]; rfl, rfl⟩
set_option maxRecDepth 100000 in
set_option maxHeartbeats 1000000 in
theorem digits_x (n : Nat) (w : World) (hn : n ≤ 140737488355327) : Calls Tryd.prog 47 #[.int .i64 (n : Int)] w fun e w' => e = .returned (.string (Bson.digits n)) ∧ Below w.heap.size w w' := by
  go_enter Tryd.func47, Tryd.ntmps47
  go_wp2_with fail
  go_loopw [0, 3] (fun z t wr => ∃ (k : Nat) (s : ByteArray), z = .int .i64 k ∧ t = .string s ∧ s.size + k ≤ n ∧ Hid (Lib.decDigits k ++ s.data.toList = Lib.decDigits n) ∧ Hid (Below w.heap.size w wr)) (fun z _ _ => (intOf z).toNat)
  case atStart => exact ⟨n, ⟨#[]⟩, rfl, rfl, Nat.le_of_eq (Nat.zero_add n), by show _ ++ [] = _; rw [List.append_nil], Below.refl _ _⟩
  case round =>
    obtain ⟨k, s, rfl, rfl, hs, HD, HB⟩ := hrel
    have hcell : (wr.alloc (.cells #[.int .u8 (48 + (k : Int) % 10)] 5)).cell? ⟨wr.heap.size, 0, none⟩ = some (.int .u8 (48 + (k : Int) % 10)) := (cell_of_row _ _ 0 _ _ _ (heap_alloc_new wr _)).trans rfl
    have hcv := conv_str (wr.alloc (.cells #[.int .u8 (48 + (k : Int) % 10)] 5)) (some ⟨wr.heap.size, 0, none⟩) 1 1 [48 + k % 10] rfl (.inr ⟨_, 0, rfl, fun j hj => by
      obtain rfl : j = 0 := by simp at hj; omega
      rw [Nat.add_zero, hcell]
      congr 2⟩)
    have hsz : (strB [48 + k % 10]).size = 1 := rfl
    have hds : ∀ d, d = strB [48 + k % 10] → (d ++ s).data.toList = UInt8.ofNat (48 + k % 10) :: s.data.toList := by
      rintro d rfl
      rw [Path.app_list]; rfl
    obtain ⟨d, hd⟩ : ∃ d, d = strB [48 + k % 10] := ⟨_, rfl⟩
    have HDS := Lib.hid (hds d hd)
    rw [← hd] at hcv hsz
    have HDZ : Hid ((d ++ s).size = s.size + 1) := by
      show _ = _
      rw [← Path.len_list, Path.app_list, List.length_append, Path.len_list, Path.len_list]; omega
    have HB2 : Hid (Below w.heap.size w (wr.alloc (.cells #[.int .u8 (48 + (k : Int) % 10)] 5))) := HB.out.alloc HB.out.size _
    clear hd hcell hds
    by_cases h10 : k < 10
    · have hq : (k : Int) / 10 = 0 := by omega
      go_wp2_with fail
      go_ret
      refine ⟨?_, HB2.out⟩
      have h1 := HD.out
      have h2 := HDS.out
      have h3 : k % 10 = k := Nat.mod_eq_of_lt h10
      rw [Lib.decDigits, dif_pos h10] at h1
      rw [h3] at h2
      have h5 : d ++ s = Bson.digits n := by
        apply Path.ext_list
        show _ = (Lib.decDigits n).toArray.toList
        rw [h2, ← h1]; rfl
      show Ending.returned (Value.string (d ++ s)) = _
      rw [h5]
    · have hq : ¬ (k : Int) / 10 = 0 := by omega
      have hqb : ((k : Int) / 10 == 0) = false := by rw [beq_eq_false_iff_ne]; exact hq
      go_wp2_with fail
      go_roundw
      case rel =>
        refine ⟨k / 10, _, by go_num, rfl, by rw [HDZ.out]; omega, ?_, HB2⟩
        show _ = _
        rw [HDS.out, ← HD.out]
        conv => rhs; rw [Lib.decDigits, dif_neg h10, List.append_assoc]
        rfl
      case measure => simp [intOf]; omega
end Go.Proofs.YtpiookgkkaafeaaDoor
end
section
namespace Go.Proofs.YtpiookgkkaafeaaDoor
open Go.RowKit
open Seal
open Bson (Val)
/-- Block gr is the document's reader of the bytes b, at the place k, with the error e. -/
structure RdE (w : World) (gr : Nat) (ba : Option Addr) (bc : Nat) (b : List Nat) (k e : Nat) : Prop where
  blk : w.heap[gr]? = some (.cells #[.slice ba b.length bc, .int .i64 (k : Int), .int .i64 (e : Int)] 63 (0, 0))
  rd : SliceIs w ba b
  le : k ≤ b.length
  len : b.length ≤ 65536
  cap : b.length ≤ bc
  max : bc ≤ 9223372036854775807
  oct : Oct b
section
variable {w w' : World} {gr bc k e : Nat} {ba : Option Addr} {b : List Nat}
theorem RdE.c0 (h : RdE w gr ba bc b k e) : w.cell? ⟨gr, 0, none⟩ = some (.slice ba b.length bc) := cell_of_row w gr 0 _ _ _ h.blk
theorem RdE.c1 (h : RdE w gr ba bc b k e) : w.cell? ⟨gr, 1, none⟩ = some (.int .i64 (k : Int)) := cell_of_row w gr 1 _ _ _ h.blk
theorem RdE.c2 (h : RdE w gr ba bc b k e) : w.cell? ⟨gr, 2, none⟩ = some (.int .i64 (e : Int)) := cell_of_row w gr 2 _ _ _ h.blk
theorem RdE.frz (h : RdE w gr ba bc b k e) (j : Nat) : w.frozen? ⟨gr, j, none⟩ = false := frozen_of_row w gr j _ _ h.blk
theorem RdE.lt (h : RdE w gr ba bc b k e) : gr < w.heap.size := World.block_lt_of_cell? w _ h.c0
theorem RdE.ne (h : RdE w gr ba bc b k e) {g o x : Nat} (hc : w.cell? ⟨g, o, none⟩ = some (.int .u8 (x : Int))) : g ≠ gr := by
  rintro rfl
  have := (cell_of_row w g o _ _ _ h.blk).symm.trans hc
  match o, this with
  | 0, h => simp at h
  | 1, h => simp at h
  | 2, h => simp at h
  | o + 3, h => simp at h
theorem RdE.slice (h : RdE w gr ba bc b k e) {a : Option Addr} {l : List Nat} (hs : SliceIs w a l) (hg : w.grownBy w' (some gr)) : SliceIs w' a l := by
  rcases hs with hs | ⟨g, o, ea, hs⟩
  · exact .inl hs
  · refine .inr ⟨g, o, ea, fun j hj => ?_⟩
    have h1 := hs j hj
    have hne := h.ne h1
    exact (World.cell?_of_block (a := ⟨g, o + j, none⟩) (hg.block g (World.block_lt_of_cell? w _ h1) (fun e => hne (Option.some.inj e)))).trans h1
theorem RdE.moved (h : RdE w gr ba bc b k e) (hg : w.grownBy w' (some gr)) {k' e' : Nat} (hk : k' ≤ b.length) (hb : w'.heap[gr]? = some (.cells #[.slice ba b.length bc, .int .i64 (k' : Int), .int .i64 (e' : Int)] 63 (0, 0))) : RdE w' gr ba bc b k' e' :=
  ⟨hb, h.slice h.rd hg, hk, h.len, h.cap, h.max, h.oct⟩
theorem RdE.keep (h : RdE w gr ba bc b k e) (hb : Below w.heap.size w w') : RdE w' gr ba bc b k e :=
  ⟨(hb.block gr h.lt).trans h.blk, h.rd.keep hb, h.le, h.len, h.cap, h.max, h.oct⟩
theorem RdE.dr (h : RdE w gr ba bc b k e) (q : Nat) : RdE (w.drewN q) gr ba bc b k e := ⟨h.blk, h.rd, h.le, h.len, h.cap, h.max, h.oct⟩
/-- The reader stands where its block does, and no byte turns. -/
theorem RdE.other (h : RdE w gr ba bc b k e) {B : Nat} (hB : B ≠ gr) (hu : ∀ (g o : Nat) (x : Int), w.cell? ⟨g, o, none⟩ = some (Value.int .u8 x) → g ≠ B) (j : Nat) (v : Value) : RdE (w.setCell ⟨B, j, none⟩ v) gr ba bc b k e := by
  have s1 : ∀ g, g ≠ B → (w.setCell ⟨B, j, none⟩ v).heap[g]? = w.heap[g]? := fun g hg => Below.heap_setCell w ⟨B, j, none⟩ v g hg
  refine ⟨(s1 gr (fun h => hB h.symm)).trans h.blk, ?_, h.le, h.len, h.cap, h.max, h.oct⟩
  rcases h.rd with h0 | ⟨g, o, ea, hr⟩
  · exact .inl h0
  · refine .inr ⟨g, o, ea, fun i hi => ?_⟩
    have h1 := hr i hi
    exact (World.cell?_of_block (a := ⟨g, o + i, none⟩) (s1 g (hu _ _ _ h1))).trans h1
theorem RdE.setAt (h : RdE w gr ba bc b k e) (k' : Nat) (hk : k' ≤ b.length) : RdE (w.setCell ⟨gr, 1, none⟩ (.int .i64 (k' : Int))) gr ba bc b k' e ∧ w.grownBy (w.setCell ⟨gr, 1, none⟩ (.int .i64 (k' : Int))) (some gr) := by
  have hg : w.grownBy (w.setCell ⟨gr, 1, none⟩ (.int .i64 (k' : Int))) (some gr) := grown_setCell (grown_drewN w 0 gr) 1 _
  refine ⟨h.moved hg hk ?_, hg⟩
  rw [heap_setCell_same w gr 1 _ _ _ h.blk]; simp
theorem RdE.setErr (h : RdE w gr ba bc b k e) (n : Nat) : RdE (w.setCell ⟨gr, 2, none⟩ (.int .i64 (n : Int))) gr ba bc b k n ∧ w.grownBy (w.setCell ⟨gr, 2, none⟩ (.int .i64 (n : Int))) (some gr) := by
  have hg : w.grownBy (w.setCell ⟨gr, 2, none⟩ (.int .i64 (n : Int))) (some gr) := grown_setCell (grown_drewN w 0 gr) 2 _
  refine ⟨h.moved hg h.le ?_, hg⟩
  rw [heap_setCell_same w gr 2 _ _ _ h.blk]; simp
end
set_option maxRecDepth 100000 in
set_option maxHeartbeats 1000000 in
theorem bad_any (w : World) (gr : Nat) (ba : Option Addr) (bc : Nat) (b : List Nat) (k n : Nat) (hR : RdE w gr ba bc b k 0) :
    Calls Tryd.prog 41 #[.pointer (some ⟨gr, 0, none⟩), .int .i64 (n : Int)] w fun e w' => (∃ v, e = .returned v) ∧ RdE w' gr ba bc b k n ∧ w.grownBy w' (some gr) := by
  have c2 := hR.c2
  have f2 := hR.frz 2
  have HE := Lib.hid (hR.setErr n)
  clear hR
  go_enter Tryd.func41, Tryd.ntmps41
  go_wp2_with fail
  exact bodyPost_end (results_none Tryd.results41 _ _ _) rfl ⟨⟨_, rfl⟩, HE.out.1, HE.out.2⟩
set_option maxRecDepth 100000 in
set_option maxHeartbeats 1000000 in
theorem need_yes (w : World) (gr : Nat) (ba : Option Addr) (bc : Nat) (b : List Nat) (k n : Nat) (hR : RdE w gr ba bc b k 0) (h : k + n ≤ b.length) :
    Calls Tryd.prog 42 #[.pointer (some ⟨gr, 0, none⟩), .int .i64 (n : Int)] w fun e w' => e = .returned (.bool true) ∧ ∃ q, w' = w.drewN q := by
  have c0 := hR.c0
  have c1 := hR.c1
  have c2 := hR.c2
  have hle := hR.le; have hlen := hR.len
  generalize b.length = L at *
  have hw : IntKind.i64.wrap ((L : Int) - k) = (L : Int) - k := IntWalk.i64_in _ (by omega)
  have ht : decide ((L : Int) - k < n) = false := decide_eq_false (by omega)
  have ht2 : ¬ (L : Int) - k < n := by omega
  clear hR
  go_enter Tryd.func42, Tryd.ntmps42
  go_wp2_with fail
  go_quiet (fail)
  go_wp2_with fail
  go_ret
  exact ⟨rfl, _, rfl⟩
set_option maxRecDepth 100000 in
set_option maxHeartbeats 1000000 in
theorem need_no (w : World) (gr : Nat) (ba : Option Addr) (bc : Nat) (b : List Nat) (k n : Nat) (hR : RdE w gr ba bc b k 0) (hn : n ≤ 2147483648) (h : b.length < k + n) :
    Calls Tryd.prog 42 #[.pointer (some ⟨gr, 0, none⟩), .int .i64 (n : Int)] w fun e w' => e = .returned (.bool false) ∧ RdE w' gr ba bc b k 2 ∧ w.grownBy w' (some gr) := by
  have c0 := hR.c0
  have c1 := hR.c1
  have c2 := hR.c2
  have hle := hR.le; have hlen := hR.len
  have HB : Hid (∀ q, Calls Tryd.prog 41 #[.pointer (some ⟨gr, 0, none⟩), .int .i64 2] (w.drewN q) fun e w' => (∃ v, e = .returned v) ∧ RdE w' gr ba bc b k 2 ∧ (w.drewN q).grownBy w' (some gr)) := fun q => bad_any _ gr ba bc b k 2 (hR.dr q)
  obtain ⟨L, hL⟩ : ∃ L, L = b.length := ⟨_, rfl⟩
  rw [← hL] at c0 hle hlen h
  have hw : IntKind.i64.wrap ((L : Int) - k) = (L : Int) - k := IntWalk.i64_in _ (by omega)
  have ht : decide ((L : Int) - k < n) = true := decide_eq_true (by omega)
  have ht2 : (L : Int) - k < n := by omega
  clear hR hL
  go_enter Tryd.func42, Tryd.ntmps42
  go_wp2_with fail
  go_quiet (fail)
  go_wp2_with fail
  refine (HB.out _).mono ?_
  rintro e w1 ⟨⟨v, rfl⟩, hr1, hg1⟩
  have c2' := hr1.c2
  have HR1 := Lib.hid hr1
  have HG1 := Lib.hid (grown_trans (grown_drewN w _ gr) hg1)
  clear hr1 hg1 c0 c1 c2 HB
  go_wp2_with fail
  go_ret
  exact ⟨rfl, HR1.out, HG1.out⟩
set_option maxRecDepth 100000 in
set_option maxHeartbeats 1000000 in
theorem need_bad (w : World) (gr : Nat) (ba : Option Addr) (bc : Nat) (b : List Nat) (k n e0 : Nat) (hR : RdE w gr ba bc b k e0) (he : e0 ≠ 0) :
    Calls Tryd.prog 42 #[.pointer (some ⟨gr, 0, none⟩), .int .i64 (n : Int)] w fun e w' => e = .returned (.bool false) ∧ ∃ q, w' = w.drewN q := by
  have c0 := hR.c0
  have c1 := hR.c1
  have c2 := hR.c2
  generalize b.length = L at *
  have he2 : ((e0 : Int) == 0) = false := by simp; omega
  have he3 : ¬ (e0 : Int) = 0 := by omega
  clear hR
  go_enter Tryd.func42, Tryd.ntmps42
  go_wp2_with fail
  go_quiet (fail)
  go_wp2_with fail
  go_ret
  exact ⟨rfl, _, rfl⟩
theorem leN_drop (l : List Nat) (j : Nat) (hj : j < l.length) : Bson.leN (l.drop j) = l.getD j 0 + 256 * Bson.leN (l.drop (j + 1)) := by
  rw [List.drop_eq_getElem_cons hj, Bson.leN, List.getD_eq_getElem?_getD, List.getElem?_eq_getElem hj]; rfl
set_option maxRecDepth 100000 in
set_option maxHeartbeats 1000000 in
theorem get_any (w : World) (a : Option Addr) (L c k n : Nat) (b : List Nat) (hl : b.length = L) (hn1 : 1 ≤ n) (hn : n ≤ 8) (hk : k + n ≤ L) (hL : L ≤ 65536) (ho : Oct b) (hs : SliceIs w a b) :
    Calls Tryd.prog 43 #[.slice a L c, .int .i64 (k : Int), .int .i64 (n : Int)] w fun e w' => e = .returned (.int .u64 (Bson.leN ((b.drop k).take n) : Nat)) ∧ w = w' := by
  obtain ⟨g, o, rfl, hr⟩ := hs.resolve_left (fun e => by rw [e] at hl; simp at hl; omega)
  have HR := Lib.hid hr
  have HO := Lib.hid ho
  have HLB := Lib.hid hl
  obtain ⟨l, hll⟩ : ∃ l, l = (b.drop k).take n := ⟨_, rfl⟩
  have HL : Hid (l.length = n) := by rw [hll]; show _ = _; simp; omega
  have HLL := Lib.hid hll
  rw [← hll]
  clear hr ho hs hl hll
  go_enter Tryd.func43, Tryd.ntmps43
  go_wp2_with fail
  go_loop [7, 8] (fun u i => ∃ (j : Nat) (x : Nat), i = .int .i64 ((j : Int) - 1) ∧ u = .int .u64 x ∧ j ≤ n ∧ Hid (x = Bson.leN (l.drop j)) ∧ Hid (x < 256 ^ (n - j))) (fun _ i => ((intOf i) + 1).toNat)
  case atStart => exact ⟨n, 0, rfl, rfl, Nat.le_refl _, by rw [List.drop_of_length_le (by rw [HL.out]; exact Nat.le_refl _)]; rfl, (by show 0 < _; rw [Nat.sub_self]; decide)⟩
  case round =>
    obtain ⟨j, x, rfl, rfl, hj, hx, hlt0⟩ := hrel
    by_cases hlt : 0 < j
    · obtain ⟨i, rfl⟩ : ∃ i, j = i + 1 := ⟨j - 1, by omega⟩
      have hi : ((i + 1 : Nat) : Int) - 1 = (i : Int) := by omega
      have hi0 : (0 : Int) ≤ (i : Int) := by omega
      have hil : i < l.length := by rw [HL.out]; omega
      have hgb : b.getD (k + i) 0 = l.getD i 0 := by
        rw [HLL.out, List.getD_eq_getElem?_getD, List.getD_eq_getElem?_getD, List.getElem?_take_of_lt (by omega), List.getElem?_drop]
      have hcell := HR.out (k + i) (by rw [HLB.out]; omega)
      rw [hgb] at hcell
      have hc : l.getD i 0 < 256 := by rw [← hgb]; exact HO.out _ (by rw [List.getD_eq_getElem?_getD, List.getElem?_eq_getElem (by rw [HLB.out]; omega)]; simp)
      have hsn := leN_drop l i hil
      generalize l.getD i 0 = ch at *
      have HSN := Lib.hid hsn
      have hx7 : x < 256 ^ 7 := by
        have h1 : 256 ^ (n - (i + 1)) ≤ 256 ^ 7 := Nat.pow_le_pow_right (by decide) (by omega)
        have := hlt0.out
        omega
      have hsh : IntKind.u64.wrap ((x : Int) * 2 ^ 8) = ((x * 256 : Nat) : Int) := by
        rw [wrapU]; have : (2 : Int) ^ 8 = 256 := by decide
        rw [this]; omega
      have hsh2 : IntKind.u64.wrap ((x : Int) * 256) = ((x * 256 : Nat) : Int) := by rw [wrapU]; omega
      have hor : bits .or .u64 ((x * 256 : Nat) : Int) (ch : Int) = ((x * 256 + ch : Nat) : Int) := by
        rw [u64_or_nat _ _ (by omega) (by omega), Nat.or_comm, show x * 256 = x * 256 ^ 1 by rw [Nat.pow_one], or_shift ch x 1 (by rw [Nat.pow_one]; exact hc), Nat.add_comm]
      have hki : IntKind.i64.wrap ((k : Int) + (i : Int)) = (k : Int) + (i : Int) := IntWalk.i64_in _ (by omega)
      have hkl : (k : Int) + (i : Int) < (L : Int) := by omega
      have hkl0 : (0 : Int) ≤ (k : Int) + (i : Int) := by omega
      have hkt : ((k : Int) + (i : Int)).toNat = k + i := by omega
      have hnx : Hid (x * 256 + ch = Bson.leN (l.drop i)) := by show _ = _; rw [HSN.out, ← hx.out]; omega
      have hnl : Hid (x * 256 + ch < 256 ^ (n - i)) := by
        show _ < _
        have h1 := hlt0.out
        have h2 : n - i = (n - (i + 1)) + 1 := by omega
        rw [h2, Nat.pow_succ]; omega
      have HOR := Lib.hid hor
      rw [hi]
      have HW : Hid (IntKind.u64.wrap ((x : Int) * 256) = ((x * 256 : Nat) : Int)) := hsh2
      clear hsn hx7 hgb hsh hor
      go_wp2_with fail
      refine ⟨⟨i, x * 256 + ch, rfl, by rw [show ((x : Int) * 256) = ((x * 256 : Nat) : Int) by omega, HOR.out], by omega, hnx, hnl⟩, by simp [intOf] <;> omega⟩
    · obtain rfl : j = 0 := by omega
      have hneg : ¬ (0 : Int) ≤ ((0 : Nat) : Int) - 1 := by omega
      have HX : Hid (x = Bson.leN l) := hx.out
      go_wp2_with fail
      go_ret
      exact ⟨by rw [HX.out]; rfl, rfl⟩
theorem known_some (c j : Nat) (hc : c ≠ 0) (hj : j ≤ 12) (h : Bson.code (j : Int) = c) : Bson.known c = true := by
  subst h
  have : j = 0 ∨ j = 1 ∨ j = 2 ∨ j = 3 ∨ j = 4 ∨ j = 5 ∨ j = 6 ∨ j = 7 ∨ j = 8 ∨ j = 9 ∨ j = 10 ∨ j = 11 ∨ j = 12 := by omega
  rcases this with rfl | rfl | rfl | rfl | rfl | rfl | rfl | rfl | rfl | rfl | rfl | rfl | rfl
  · exact absurd rfl hc
  all_goals rfl
theorem known_none (c : Nat) (h : ∀ j : Nat, j ≤ 12 → Bson.code (j : Int) ≠ c) : Bson.known c = (c == 1 || c == 19) := by
  have h1 : (255 : Nat) ≠ c := h 1 (by decide)
  have h2 : (10 : Nat) ≠ c := h 2 (by decide)
  have h3 : (16 : Nat) ≠ c := h 3 (by decide)
  have h4 : (18 : Nat) ≠ c := h 4 (by decide)
  have h5 : (2 : Nat) ≠ c := h 5 (by decide)
  have h6 : (3 : Nat) ≠ c := h 6 (by decide)
  have h7 : (4 : Nat) ≠ c := h 7 (by decide)
  have h8 : (5 : Nat) ≠ c := h 8 (by decide)
  have h9 : (7 : Nat) ≠ c := h 9 (by decide)
  have h10 : (8 : Nat) ≠ c := h 10 (by decide)
  have h11 : (9 : Nat) ≠ c := h 11 (by decide)
  have h12 : (127 : Nat) ≠ c := h 12 (by decide)
  unfold Bson.known
  rw [Bool.eq_iff_iff]
  simp only [Bool.or_eq_true, beq_iff_eq]
  omega
set_option maxRecDepth 100000 in
set_option maxHeartbeats 1000000 in
theorem known_any (c : Nat) (w : World) (hc : c ≠ 0) : Calls Tryd.prog 44 #[.int .u8 (c : Int)] w fun e w' => e = .returned (.bool (Bson.known c)) ∧ w' = w := by
  have HC := Lib.hid hc
  have CX := Lib.hid (fun (k : Int) => code_x k w)
  clear hc
  go_enter Tryd.func44, Tryd.ntmps44
  go_wp2_with fail
  go_loop [3] (fun i => ∃ j : Nat, i = .int .i64 j ∧ j ≤ 13 ∧ Hid (∀ q : Nat, q < j → Bson.code (q : Int) ≠ c)) (fun i => 13 - (intOf i).toNat)
  case atStart => exact ⟨0, rfl, by decide, fun q hq => absurd hq (Nat.not_lt_zero q)⟩
  case round =>
    obtain ⟨j, rfl, hj, HN⟩ := hrel
    by_cases hlt : j ≤ 12
    · go_wp2_with fail
      refine (CX.out _).mono ?_
      rintro e w1 ⟨rfl, rfl⟩
      obtain ⟨d, hd⟩ : ∃ d, d = Bson.code (j : Int) := ⟨_, rfl⟩
      rw [← hd]
      by_cases e : d = c
      · have HK : Hid (Bson.known c = true) := known_some c j HC.out hlt (by rw [← hd]; exact e)
        have hb : ((d : Int) == (c : Int)) = true := by rw [e]; simp
        clear hd e
        go_wp2_with fail
        go_ret
        exact ⟨by rw [HK.out]; rfl, rfl⟩
      · have HN2 : Hid (∀ q : Nat, q < j + 1 → Bson.code (q : Int) ≠ c) := fun q hq => by
          by_cases eq : q = j
          · subst eq; rw [← hd]; exact e
          · exact HN.out q (by omega)
        have hb : ((d : Int) == (c : Int)) = false := by simp; omega
        clear hd e
        go_wp2_with fail
        go_round
        case rel => exact ⟨j + 1, by go_num, by omega, HN2⟩
        case measure => simp [intOf]; omega
    · have HK : Hid (Bson.known c = (c == 1 || c == 19)) := known_none c (fun q hq => HN.out q (by omega))
      by_cases e1 : c = 1
      · subst e1
        go_wp2_with fail
        go_ret
        exact ⟨by rw [HK.out]; rfl, rfl⟩
      · have hb1 : ((c : Int) == 1) = false := by simp; omega
        by_cases e2 : c = 19
        · subst e2
          go_wp2_with fail
          go_ret
          exact ⟨by rw [HK.out]; rfl, rfl⟩
        · have hb2 : ((c : Int) == 19) = false := by simp; omega
          have HF : Hid ((c == 1 || c == 19) = false) := by show _ = _; simp [e1, e2]
          clear e1 e2
          go_wp2_with fail
          go_ret
          exact ⟨by rw [HK.out, HF.out]; rfl, rfl⟩
end Go.Proofs.YtpiookgkkaafeaaDoor
end
section
namespace Go.Proofs.YtpiookgkkaafeaaDoor
open Go.RowKit
open Seal
open Bson (Val)
def posE (w : World) (gr : Nat) : Nat := match w.cell? ⟨gr, 1, none⟩ with | some (.int _ k) => k.toNat | _ => 0
theorem RdE.pos {w : World} {gr bc k e : Nat} {ba : Option Addr} {b : List Nat} (h : RdE w gr ba bc b k e) : posE w gr = k := by unfold posE; rw [h.c1]; simp
theorem RdE.byte {w : World} {gr bc k e : Nat} {ba : Option Addr} {b : List Nat} (h : RdE w gr ba bc b k e) (hk : k < b.length) : ∃ g o, ba = some ⟨g, o, none⟩ ∧ w.cell? ⟨g, o + k, none⟩ = some (.int .u8 (b[k] : Int)) ∧ b[k] < 256 := by
  obtain ⟨g, o, e1, hr⟩ := h.rd.resolve_left (fun e => by rw [e] at hk; simp at hk)
  have h1 := hr k hk
  rw [List.getD_eq_getElem?_getD, List.getElem?_eq_getElem hk] at h1
  exact ⟨g, o, e1, h1, h.oct _ (List.getElem_mem hk)⟩
set_option maxRecDepth 100000 in
set_option maxHeartbeats 2000000 in
theorem rname_any (w : World) (gr : Nat) (ba : Option Addr) (bc : Nat) (b : List Nat) (k i : Nat) (hR : RdE w gr ba bc b k 0) (hi : i = (b.drop k).findIdx (· == 0)) :
    Calls Tryd.prog 45 #[.pointer (some ⟨gr, 0, none⟩)] w fun e w' => w.grownBy w' (some gr) ∧ ((k + i = b.length ∧ e = .returned (.string ⟨#[]⟩) ∧ RdE w' gr ba bc b b.length 2) ∨ (k + i < b.length ∧ e = .returned (.string (strB ((b.drop k).take i))) ∧ RdE w' gr ba bc b (k + i + 1) 0)) := by
  have c0 := hR.c0
  have c1 := hR.c1
  have hle := hR.le; have hlen := hR.len; have hcap := hR.cap; have hmax := hR.max
  have hil : k + i ≤ b.length := by
    have := List.findIdx_le_length (xs := b.drop k) (p := (· == 0))
    rw [← hi, List.length_drop] at this; omega
  have HNZ : Hid (∀ j (hj : j < i), ∃ h : k + j < b.length, b[k + j] ≠ 0) := fun j hj => by
    have h1 : k + j < b.length := by omega
    refine ⟨h1, ?_⟩
    have := List.not_of_lt_findIdx (p := (· == 0)) (xs := b.drop k) (i := j) (by rw [← hi]; exact hj)
    simpa using this
  have HZ : Hid (∀ h : k + i < b.length, b[k + i] = 0) := fun h => by
    have h2 : (b.drop k).findIdx (· == 0) < (b.drop k).length := by rw [← hi, List.length_drop]; omega
    have := List.findIdx_getElem (w := h2)
    simp only [List.getElem_drop, beq_iff_eq] at this
    have e : k + (b.drop k).findIdx (· == 0) = k + i := by rw [← hi]
    simp only [e] at this
    exact this
  have HR0 := Lib.hid hR
  obtain ⟨L, hL⟩ : ∃ L, L = b.length := ⟨_, rfl⟩
  rw [← hL] at c0 hle hlen hcap hil
  have HL := Lib.hid hL
  clear hR hi hL
  go_enter Tryd.func45, Tryd.ntmps45
  go_wp2_with fail
  go_loopw [9] (fun u wr => ∃ (j : Nat) (v : Value), v = u ∧ j ≤ i ∧ Hid (RdE wr gr ba bc b (k + j) 0) ∧ Hid (w.grownBy wr (some gr))) (fun _ wr => L - posE wr gr)
  case atStart => exact ⟨0, _, rfl, Nat.zero_le _, HR0, grown_drewN w 0 gr⟩
  case round =>
    obtain ⟨j, v9, rfl, hj, HR, HG⟩ := hrel
    clear c0 c1
    have c0 := HR.out.c0
    have c1 := HR.out.c1
    have f1 := HR.out.frz 1
    rw [← HL.out] at c0
    have hpos := HR.out.pos
    by_cases hlt : j < i
    · obtain ⟨hb1, hb2⟩ := HNZ.out j hlt
      obtain ⟨g, o, rfl, q0, -⟩ := HR.out.byte hb1
      obtain ⟨c, hc⟩ : ∃ c, c = b[k + j] := ⟨_, rfl⟩
      rw [← hc] at q0 hb2
      have hcz : ((c : Int) != 0) = true := by simp; omega
      have hcz2 : ¬ (c : Int) = 0 := by omega
      have hkl : ((k + j : Nat) : Int) < (L : Int) := by rw [HL.out]; omega
      have hkd : decide (((k + j : Nat) : Int) < (L : Int)) = true := decide_eq_true hkl
      have hk0 : (0 : Int) ≤ ((k + j : Nat) : Int) := by omega
      have hkt : ((k + j : Nat) : Int).toNat = k + j := by omega
      have hw1 : IntKind.i64.wrap (((k + j : Nat) : Int) + 1) = ((k + j : Nat) : Int) + 1 := IntWalk.i64_in _ (by omega)
      have HN1 : Hid (∀ q, RdE ((wr.drewN q).setCell ⟨gr, 1, none⟩ (.int .i64 (((k + j : Nat) : Int) + 1))) gr (some ⟨g, o, none⟩) bc b (k + (j + 1)) 0 ∧ wr.grownBy ((wr.drewN q).setCell ⟨gr, 1, none⟩ (.int .i64 (((k + j : Nat) : Int) + 1))) (some gr)) := fun q => by
        have h1 := (HR.out.dr q).setAt (k + (j + 1)) (by omega)
        have e : ((k + (j + 1) : Nat) : Int) = ((k + j : Nat) : Int) + 1 := by omega
        rw [e] at h1
        exact ⟨h1.1, grown_trans (grown_drewN wr q gr) h1.2⟩
      obtain ⟨m, hm⟩ : ∃ m, m = k + j := ⟨_, rfl⟩
      rw [← hm] at c1 q0 hkl hkd hk0 hkt hw1 hpos HN1
      have HM := Lib.hid hm
      clear hc hb1 hm hb2
      go_wp2_with fail
      go_quiet (fail)
      go_wp2_with fail
      go_roundw
      case rel => exact ⟨j + 1, _, rfl, by omega, (HN1.out _).1, grown_trans HG.out (HN1.out _).2⟩
      case measure => rw [(HN1.out _).1.pos, hpos, HM.out]; omega
    · obtain rfl : j = i := by omega
      have hk0 : (0 : Int) ≤ ((k + j : Nat) : Int) := by omega
      have hkt : ((k + j : Nat) : Int).toNat = k + j := by omega
      by_cases hend : k + j = L
      · have hkl : ¬ ((k + j : Nat) : Int) < (L : Int) := by omega
        have hkd : decide (((k + j : Nat) : Int) < (L : Int)) = false := decide_eq_false hkl
        have hkg : (L : Int) ≤ ((k + j : Nat) : Int) := by omega
        have hkn : decide (k + j < L) = false := decide_eq_false (by omega)
        have hkn2 : decide (L ≤ k + j) = true := decide_eq_true (by omega)
        have CB : Hid (∀ q, Calls Tryd.prog 41 #[.pointer (some ⟨gr, 0, none⟩), .int .i64 2] (wr.drewN q) fun e w' => (∃ v, e = .returned v) ∧ RdE w' gr ba bc b b.length 2 ∧ w.grownBy w' (some gr)) := fun q => by
          refine (bad_any _ gr ba bc b (k + j) 2 (HR.out.dr q)).mono ?_
          rintro e w' ⟨h1, h2, h3⟩
          have e1 : k + j = b.length := by rw [hend]; exact HL.out
          rw [e1] at h2
          exact ⟨h1, h2, grown_trans HG.out (grown_trans (grown_drewN wr q gr) h3)⟩
        have HEND : Hid (k + j = b.length) := by show _ = _; rw [hend]; exact HL.out
        obtain ⟨m, hm⟩ : ∃ m, m = k + j := ⟨_, rfl⟩
        rw [← hm] at c1 hkl hkd hk0 hkt hkg hkn hkn2
        clear hm hend
        go_wp2_with fail
        go_quiet (fail)
        go_wp2_with fail
        go_quiet (fail)
        go_wp2_with fail
        refine (CB.out _).mono ?_
        rintro e w2 ⟨⟨v2, rfl⟩, hr2, hg2⟩
        have HR2 := Lib.hid hr2
        have HG2 := Lib.hid hg2
        clear hr2 hg2 c0 c1 f1
        go_wp2_with fail
        go_ret
        exact ⟨HG2.out, .inl ⟨HEND.out, rfl, HR2.out⟩⟩
      · have hlt2 : k + j < b.length := by rw [← HL.out]; omega
        obtain ⟨g, o, rfl, q0, -⟩ := HR.out.byte hlt2
        rw [HZ.out hlt2] at q0
        have hkl : ((k + j : Nat) : Int) < (L : Int) := by omega
        have hkd : decide (((k + j : Nat) : Int) < (L : Int)) = true := decide_eq_true hkl
        have hkg : ¬ (L : Int) ≤ ((k + j : Nat) : Int) := by omega
        have hkn : decide (k + j < L) = true := decide_eq_true (by omega)
        have hkn2 : decide (L ≤ k + j) = false := decide_eq_false (by omega)
        have hw1 : IntKind.i64.wrap (((k + j : Nat) : Int) + 1) = ((k + j : Nat) : Int) + 1 := IntWalk.i64_in _ (by omega)
        have HN1 : Hid (∀ q, RdE ((wr.drewN q).setCell ⟨gr, 1, none⟩ (.int .i64 (((k + j : Nat) : Int) + 1))) gr (some ⟨g, o, none⟩) bc b (k + j + 1) 0 ∧ w.grownBy ((wr.drewN q).setCell ⟨gr, 1, none⟩ (.int .i64 (((k + j : Nat) : Int) + 1))) (some gr)) := fun q => by
          have h1 := (HR.out.dr q).setAt (k + j + 1) (by omega)
          have e : ((k + j + 1 : Nat) : Int) = ((k + j : Nat) : Int) + 1 := by omega
          rw [e] at h1
          exact ⟨h1.1, grown_trans HG.out (grown_trans (grown_drewN wr q gr) h1.2)⟩
        have hcv : ∀ q, (convert 22 9 (.slice (some ⟨g, o + k, none⟩) j (bc - k))).run Tryd.prog (wr.drewN q) = .ok (.string (strB ((b.drop k).take j))) (wr.drewN q) := fun q => by
          have hs : SliceIs (wr.drewN q) (some ⟨g, o + k, none⟩) ((b.drop k).take j) := by
            have := (HR.out.dr q).rd.cut k j
            rcases this with h | ⟨g', o', e, h⟩
            · exact .inl h
            · refine .inr ⟨g', o', ?_, h⟩
              rw [← e]
              simp [Addr.add]
          exact conv_str _ _ _ _ _ (by simp; omega) hs
        have hnk : ¬ bc = k := by omega
        have hkb : (k : Int) ≤ ((k + j : Nat) : Int) := by omega
        have hkb2 : ((k + j : Nat) : Int) ≤ (bc : Int) := by omega
        have hkb3 : (0 : Int) ≤ (k : Int) := by omega
        have hsub : (((k + j : Nat) : Int) - (k : Int)).toNat = j := by omega
        obtain ⟨sb, hsb⟩ : ∃ sb, sb = strB ((b.drop k).take j) := ⟨_, rfl⟩
        rw [← hsb] at hcv
        have HSB := Lib.hid hsb
        clear hsb
        obtain ⟨m, hm⟩ : ∃ m, m = k + j := ⟨_, rfl⟩
        rw [← hm] at c1 q0 hkl hkd hk0 hkt hw1 hkg hkb hkb2 hsub hkn hkn2
        have hmk : m - k = j := by omega
        rw [← hm] at HN1
        have HEND := Lib.hid hlt2
        have HM := Lib.hid hm
        clear hm hend hlt2
        go_wp2_with fail
        go_quiet (fail)
        go_wp2_with fail
        go_quiet (fail)
        go_wp2_with fail
        go_quiet (fail)
        go_wp2_with fail
        go_ret
        refine ⟨(HN1.out _).2, .inr ⟨HEND.out, by rw [HSB.out]; rfl, ?_⟩⟩
        rw [← HM.out]
        exact (HN1.out _).1
end Go.Proofs.YtpiookgkkaafeaaDoor
end
