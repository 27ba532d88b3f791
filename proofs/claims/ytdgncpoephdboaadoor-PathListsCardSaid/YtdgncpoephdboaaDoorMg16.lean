/- PathListsMem, PathAccMany. -/
import Derived.Test.YtdgncpoephdboaaDoorMg9
import Derived.Test.YtdgncpoephdboaaDoorMg3
import Derived.Test.YtdgncpoephdboaaDoorMg8
import Derived.Test.YtdgncpoephdboaaDoorMg15
import Derived.Test.YtdgncpoephdboaaDoorMg0
set_option maxRecDepth 100000
section
namespace Go.Proofs.YtdgncpoephdboaaDoor
open Go.RowKit
open Seal
open Bson (Val)
theorem ItemsIn.low {w : World} {Q : Nat → Prop} {h : Nat} {a : Option Addr} {l : List Val} (hI : ItemsIn w Q (VIn w Q h) a l) : ItemsIn w (fun g => Q g ∧ g < w.heap.size) (VIn w (fun g => Q g ∧ g < w.heap.size) h) a l := by
  cases l with
  | nil => exact .inl rfl
  | cons y r =>
    obtain ⟨g, o, e, hq, hr⟩ := id hI |>.resolve_left (by simp)
    obtain ⟨v0, h0, _⟩ := hr 0 (by simp)
    obtain ⟨_, _, _, _, _, _, _, hc, _⟩ := h0
    refine .inr ⟨g, o, e, ⟨hq, World.block_lt_of_cell? w _ hc⟩, fun i hi => ?_⟩
    obtain ⟨v, h1, h2⟩ := hr i hi
    exact ⟨v, h1, VIn.lt h2⟩
theorem VIn.ones {w : World} {Q : Nat → Prop} {H : Nat} {x : Val} {c0 c1 c2 c3 c4 c5 : Value} (h : VIn w Q H x (.agg #[c0, c1, c2, c3, c4, c5])) : ∃ (k n : Int) (s : ByteArray) (ba : Option Addr) (bl bc : Nat) (fa : Option Addr) (fl fc : Nat) (la : Option Addr) (ll lc : Nat), c0 = .int .i64 k ∧ c1 = .int .i64 n ∧ c2 = .string s ∧ c3 = .slice ba bl bc ∧ c4 = .slice fa fl fc ∧ c5 = .slice la ll lc := by
  cases H with
  | zero => exact h.elim
  | succ H =>
    obtain ⟨ba, fa, la, bc, fc, lc, e, _⟩ := h
    unfold agg at e
    injection e with e
    simp only [Array.mk.injEq, List.cons.injEq, and_true] at e
    obtain ⟨rfl, rfl, rfl, rfl, rfl, rfl⟩ := e
    exact ⟨_, _, _, _, _, _, _, _, _, _, _, _, rfl, rfl, rfl, rfl, rfl, rfl⟩
def listsD (l : List Val) : Val := .mk 6 0 ⟨#[]⟩ [] [(⟨#[108]⟩, Bson.listOf l)] []
/-- The drawn region: which operations are done, and what then stands. dv: the document's cells, pv: the names; x, all: what is brought. -/
def LInv (W3 : World) (dv pv : Value) (H : Nat) (x : Val) (al : List Val) (D : Nat → Bool) (V : Nat → Value) (w : World) : Prop :=
  Below W3.heap.size W3 w ∧ (D 0 = true → V 0 = dv) ∧ (D 1 = true → V 1 = pv) ∧ (D 3 = true → V 3 = dv) ∧ (D 4 = true → V 4 = pv) ∧
  ∃ g6, (D 6 = true → V 6 = .pointer (some ⟨g6, 0, none⟩) ∧ W3.heap.size ≤ g6 ∧ g6 < w.heap.size ∧ (D 7 = false → IsBox w g6 (.int .i64 0) (.int .i64 0) (.string ⟨#[]⟩) (.slice none 0 0) (.slice none 0 0) (.slice none 0 0))) ∧
    (D 2 = true → ∃ c0 c1 c2 c3 c4 c5, V 2 = .agg #[c0, c1, c2, c3, c4, c5] ∧ VIn w (fun g => g < w.heap.size ∧ (D 6 = true → g ≠ g6)) H x (.agg #[c0, c1, c2, c3, c4, c5]) ∧ (D 7 = true → IsBox w g6 c0 c1 c2 c3 c4 c5)) ∧
    (D 5 = true → ∃ a c, V 5 = .slice a al.length c ∧ ItemsIn w (fun g => g < w.heap.size ∧ (D 6 = true → g ≠ g6)) (VIn w (fun g => g < w.heap.size ∧ (D 6 = true → g ≠ g6)) H) a al) ∧
    (D 7 = true → D 2 = true ∧ D 6 = true) ∧ (D 8 = true → D 5 = true ∧ V 8 = V 5)
/-- The row of one Missing. -/
theorem first_missing {w : World} {Q : Nat → Prop} {H : Nat} {al : List Val} {a : Option Addr} (hI : ItemsIn w Q (VIn w Q H) a al) (hal : al = [Bson.zero]) : ∃ g o, a = some ⟨g, o, none⟩ ∧ w.cell? ⟨g, o, none⟩ = some (.int .i64 0) := by
  subst hal
  obtain ⟨g, o, e, _, hr⟩ := hI.resolve_left (by simp)
  obtain ⟨v, ⟨c0, c1, c2, c3, c4, c5, e1, h0, _⟩, hv⟩ := hr 0 (by decide)
  cases H with
  | zero => exact hv.elim
  | succ H =>
    obtain ⟨ba, fa, la, bc, fc, lc, e2, _⟩ := hv
    subst e1
    unfold agg at e2
    injection e2 with e2
    simp only [Array.mk.injEq, List.cons.injEq, and_true] at e2
    obtain ⟨rfl, _⟩ := e2
    have h0 : w.cell? ⟨g, o + 0 * 6, none⟩ = some (.int .i64 0) := h0
    exact ⟨g, o, e, by simpa using h0⟩
theorem gotten_le (k : Nat) (a : ByteArray) (l : List Val) : (Bson.gotten k a l).length ≤ l.length := by
  unfold Bson.gotten
  exact Nat.le_trans (List.length_filter_le _ _) (by simp)
/-- What stands behind the drawn region: the box of what the expression gathers, the row of what the query asks. -/
def LFin (w0 : World) (H : Nat) (ys al : List Val) (s7 s8 : Value) (w : World) : Prop :=
  ∃ (g6 : Nat) (b : Option Addr) (bc : Nat) (f : Option Addr) (fc : Nat) (lx : Option Addr) (lc : Nat) (a : Option Addr) (c : Nat), s7 = .pointer (some ⟨g6, 0, none⟩) ∧ s8 = .slice a al.length c ∧ Below w0.heap.size w0 w ∧ w0.heap.size ≤ g6 ∧ g6 < w.heap.size ∧
    IsBox w g6 (.int .i64 7) (.int .i64 0) (.string ⟨#[]⟩) (.slice b 0 bc) (.slice f 0 fc) (.slice lx ys.length lc) ∧
    ItemsIn w (fun g => g < w.heap.size) (VIn w (fun g => g < w.heap.size) H) lx ys ∧
    ItemsIn w (fun g => g < w.heap.size) (VIn w (fun g => g < w.heap.size) (H + 1)) a al
/-- The loop over the items: what is gathered of the first k, how many of the query's answers they have met. -/
def LRow (Q : Nat → Prop) (h : Nat) (nm : ByteArray) (l al : List Val) (wc : World) (k q : Nat) (v : Value) (wr : World) : Prop :=
  (∃ xs, Acc wr wc.heap.size v (fun g => Q g ∨ wc.heap.size ≤ g) (h + 1) (Bson.gotten (h + 2) nm (l.take k)) xs) ∧ Below wc.heap.size wc wr ∧ q = (Bson.asked nm (l.take k)).length ∧ q ≤ al.length
section
variable {W3 w w' : World} {dv pv : Value} {H : Nat} {x : Val} {al : List Val} {D : Nat → Bool} {V : Nat → Value}
theorem LInv.below (h : LInv W3 dv pv H x al D V w) : Below W3.heap.size W3 w := h.1
theorem LInv.keep (h : LInv W3 dv pv H x al D V w) (hb : Below w.heap.size w w') : LInv W3 dv pv H x al D V w' := by
  obtain ⟨h0, h1, h2, h3, h4, g6, h5, h6, h7, h8, h9⟩ := h
  refine ⟨h0.trans (hb.mono h0.size), h1, h2, h3, h4, g6, fun e => ?_, fun e => ?_, fun e => ?_, h8, h9⟩
  · obtain ⟨a, b, c, d⟩ := h5 e
    exact ⟨a, b, Nat.lt_of_lt_of_le c hb.size, fun z => (d z).keep hb⟩
  · obtain ⟨c0, c1, c2, c3, c4, c5, a, b, c⟩ := h6 e
    exact ⟨c0, c1, c2, c3, c4, c5, a, VIn.kept (Kept.of_below hb) (fun g hg => ⟨Nat.lt_of_lt_of_le hg.1 hb.size, hg.2⟩) b, fun z => (c z).keep hb⟩
  · obtain ⟨a, c, b, d⟩ := h7 e
    exact ⟨a, c, b, d.kept (Kept.of_below hb) (fun g hg => ⟨Nat.lt_of_lt_of_le hg.1 hb.size, hg.2⟩) (fun _ _ z => VIn.kept (Kept.of_below hb) (fun g hg => ⟨Nat.lt_of_lt_of_le hg.1 hb.size, hg.2⟩) z)⟩
theorem LInv.no7 (h : LInv W3 dv pv H x al D V w) (h2 : D 2 = false) : D 7 = false := by
  obtain ⟨_, _, _, _, _, _, _, _, _, h8, _⟩ := h
  cases e : D 7 with
  | false => rfl
  | true => rw [(h8 e).1] at h2; cases h2
theorem LInv.no76 (h : LInv W3 dv pv H x al D V w) (h6 : D 6 = false) : D 7 = false := by
  obtain ⟨_, _, _, _, _, _, _, _, _, h8, _⟩ := h
  cases e : D 7 with
  | false => rfl
  | true => rw [(h8 e).2] at h6; cases h6
theorem LInv.no8 (h : LInv W3 dv pv H x al D V w) (h5 : D 5 = false) : D 8 = false := by
  obtain ⟨_, _, _, _, _, _, _, _, _, _, h9⟩ := h
  cases e : D 8 with
  | false => rfl
  | true => rw [(h9 e).1] at h5; cases h5
/-- One of the document's cells, of the names, has been read. -/
theorem LInv.read0 (h : LInv W3 dv pv H x al D V w) : LInv W3 dv pv H x al (setD D 0) (upd V 0 dv) w := by
  obtain ⟨h0, h1, h2, h3, h4, g6, h5, h6, h7, h8, h9⟩ := h
  exact ⟨h0, fun _ => rfl, h2, h3, h4, g6, h5, h6, h7, h8, h9⟩
theorem LInv.read1 (h : LInv W3 dv pv H x al D V w) : LInv W3 dv pv H x al (setD D 1) (upd V 1 pv) w := by
  obtain ⟨h0, h1, h2, h3, h4, g6, h5, h6, h7, h8, h9⟩ := h
  exact ⟨h0, h1, fun _ => rfl, h3, h4, g6, h5, h6, h7, h8, h9⟩
theorem LInv.read3 (h : LInv W3 dv pv H x al D V w) : LInv W3 dv pv H x al (setD D 3) (upd V 3 dv) w := by
  obtain ⟨h0, h1, h2, h3, h4, g6, h5, h6, h7, h8, h9⟩ := h
  exact ⟨h0, h1, h2, fun _ => rfl, h4, g6, h5, h6, h7, h8, h9⟩
theorem LInv.read4 (h : LInv W3 dv pv H x al D V w) : LInv W3 dv pv H x al (setD D 4) (upd V 4 pv) w := by
  obtain ⟨h0, h1, h2, h3, h4, g6, h5, h6, h7, h8, h9⟩ := h
  exact ⟨h0, h1, h2, h3, fun _ => rfl, g6, h5, h6, h7, h8, h9⟩
/-- Reach has answered. -/
theorem LInv.reached (h : LInv W3 dv pv H x al D V w) (h7d : D 7 = false) (hb : Below w.heap.size w w') {v : Value} (hH : ∃ H', H = H' + 1) (hv : VIn w' (fun g => w.heap.size ≤ g) H x v) : LInv W3 dv pv H x al (setD D 2) (upd V 2 v) w' := by
  obtain ⟨H', rfl⟩ := hH
  obtain ⟨c0, c1, c2, c3, c4, c5, rfl⟩ : ∃ c0 c1 c2 c3 c4 c5, v = .agg #[c0, c1, c2, c3, c4, c5] := by
    obtain ⟨ka, na, sa, ba, fa, la, bl, bc, fl, fc, ll, lc, e⟩ := VIn.shape hv
    exact ⟨_, _, _, _, _, _, e⟩
  have hk := h.keep hb
  obtain ⟨_, _, _, _, _, g6', h5', _, _, _, _⟩ := id h
  obtain ⟨h0, h1, h2, h3, h4, g6, h5, h6, h7, h8, h9⟩ := hk
  have hg : D 6 = true → g6 < w.heap.size := fun e => by
    have e1 := (h5 e).1
    rw [(h5' e).1] at e1
    have e2 : g6' = g6 := by injection e1 with e1; injection e1 with e1; injection e1
    rw [← e2]; exact (h5' e).2.2.1
  refine ⟨h0, h1, h2, h3, h4, g6, h5, fun _ => ⟨c0, c1, c2, c3, c4, c5, rfl, ?_, fun e => ?_⟩, h7, fun e => ⟨rfl, (h8 e).2⟩, h9⟩
  · exact (VIn.lt (h := H' + 1) hv).kept (h := H' + 1) (Kept.of_below (Below.refl _ _)) (fun g hgg => ⟨hgg.2, fun e => by have := hg e; have := hgg.1; omega⟩)
  · exact absurd (show D 7 = true from e) (by rw [h7d]; decide)
/-- All has answered. -/
theorem LInv.brought (h : LInv W3 dv pv H x al D V w) (h8d : D 8 = false) (hb : Below w.heap.size w w') {a : Option Addr} {c : Nat} {QD : Nat → Prop} (hq : ∀ g, QD g → g < W3.heap.size) (hI : ItemsIn w' (fun g => QD g ∨ w.heap.size ≤ g) (VIn w' (fun g => QD g ∨ w.heap.size ≤ g) H) a al) : LInv W3 dv pv H x al (setD D 5) (upd V 5 (.slice a al.length c)) w' := by
  have hk := h.keep hb
  obtain ⟨_, _, _, _, _, g6', h5', _, _, _, _⟩ := id h
  obtain ⟨h0, h1, h2, h3, h4, g6, h5, h6, h7, h8, h9⟩ := hk
  have hg : D 6 = true → W3.heap.size ≤ g6 ∧ g6 < w.heap.size := fun e => by
    have e1 := (h5 e).1
    rw [(h5' e).1] at e1
    have e2 : g6' = g6 := by injection e1 with e1; injection e1 with e1; injection e1
    rw [← e2]; exact ⟨(h5' e).2.1, (h5' e).2.2.1⟩
  have hc : ∀ g, (QD g ∨ w.heap.size ≤ g) ∧ g < w'.heap.size → g < w'.heap.size ∧ (setD D 5 6 = true → g ≠ g6) := fun g hgg => ⟨hgg.2, fun e => by
    have h1 := hg (show D 6 = true from e)
    rcases hgg.1 with z | z
    · have := hq g z; omega
    · omega⟩
  refine ⟨h0, h1, h2, h3, h4, g6, h5, h6, fun _ => ⟨a, c, rfl, ?_⟩, h8, fun e => absurd (show D 8 = true from e) (by rw [h8d]; decide)⟩
  exact (ItemsIn.low hI).kept (Kept.of_below (Below.refl _ _)) hc (fun _ _ z => VIn.kept (Kept.of_below (Below.refl _ _)) hc z)
/-- The box is laid. -/
theorem LInv.laid (h : LInv W3 dv pv H x al D V w) (h7d : D 7 = false) : LInv W3 dv pv H x al (setD D 6) (upd V 6 (.pointer (some ⟨w.heap.size, 0, none⟩))) (w.alloc (.cells #[.int .i64 0, .int .i64 0, .string ⟨#[]⟩, .slice none 0 0, .slice none 0 0, .slice none 0 0] 27)) := by
  have hb : Below w.heap.size w (w.alloc (.cells #[.int .i64 0, .int .i64 0, .string ⟨#[]⟩, .slice none 0 0, .slice none 0 0, .slice none 0 0] 27)) := (Below.refl _ w).alloc (Nat.le_refl _) _
  obtain ⟨h0, h1, h2, h3, h4, g6, h5, h6, h7, h8, h9⟩ := h
  have hc : ∀ g, g < w.heap.size ∧ (D 6 = true → g ≠ g6) → g < (w.alloc (.cells #[.int .i64 0, .int .i64 0, .string ⟨#[]⟩, .slice none 0 0, .slice none 0 0, .slice none 0 0] 27)).heap.size ∧ (setD D 6 6 = true → g ≠ w.heap.size) := fun g hg => ⟨Nat.lt_of_lt_of_le hg.1 hb.size, fun _ => by have := hg.1; omega⟩
  refine ⟨h0.trans (hb.mono h0.size), h1, h2, h3, h4, w.heap.size, fun _ => ⟨rfl, h0.size, by simp, fun _ => IsBox.new w _ _ _ _ _ _⟩, fun e => ?_, fun e => ?_, fun e => absurd (show D 7 = true from e) (by rw [h7d]; decide), h9⟩
  · obtain ⟨c0, c1, c2, c3, c4, c5, a, b, _⟩ := h6 e
    exact ⟨c0, c1, c2, c3, c4, c5, a, VIn.kept (Kept.of_below hb) hc b, fun z => absurd (show D 7 = true from z) (by rw [h7d]; decide)⟩
  · obtain ⟨a, c, b, d⟩ := h7 e
    exact ⟨a, c, b, d.kept (Kept.of_below hb) hc (fun _ _ z => VIn.kept (Kept.of_below hb) hc z)⟩
/-- What Reach has answered is stored. -/
theorem LInv.stored (h : LInv W3 dv pv H x al D V w) (h2d : D 2 = true) (h6d : D 6 = true) (h7d : D 7 = false) : ∃ g6 c0 c1 c2 c3 c4 c5, V 6 = .pointer (some ⟨g6, 0, none⟩) ∧ V 2 = .agg #[c0, c1, c2, c3, c4, c5] ∧ IsBox w g6 (.int .i64 0) (.int .i64 0) (.string ⟨#[]⟩) (.slice none 0 0) (.slice none 0 0) (.slice none 0 0) ∧
    (∃ (k n : Int) (s : ByteArray) (ba : Option Addr) (bl bc : Nat) (fa : Option Addr) (fl fc : Nat) (la : Option Addr) (ll lc : Nat), c0 = .int .i64 k ∧ c1 = .int .i64 n ∧ c2 = .string s ∧ c3 = .slice ba bl bc ∧ c4 = .slice fa fl fc ∧ c5 = .slice la ll lc) ∧ ∀ u, LInv W3 dv pv H x al (setD D 7) (upd V 7 u) (puts w g6 0 [c0, c1, c2, c3, c4, c5]) := by
  obtain ⟨h0, h1, h2, h3, h4, g6, h5, h6, h7, h8, h9⟩ := h
  obtain ⟨e6, hl6, hg6, hbox⟩ := h5 h6d
  obtain ⟨c0, c1, c2, c3, c4, c5, e2, hv, _⟩ := h6 h2d
  have hbx := hbox h7d
  refine ⟨g6, c0, c1, c2, c3, c4, c5, e6, e2, hbx, hv.ones, fun u => ?_⟩
  have hbp : Below g6 w (puts w g6 0 [c0, c1, c2, c3, c4, c5]) := (((((Below.refl g6 w).setCell (Nat.le_refl _) _).setCell (Nat.le_refl _) _).setCell (Nat.le_refl _) _).setCell (Nat.le_refl _) _).setCell (Nat.le_refl _) _ |>.setCell (Nat.le_refl _) _
  have hkp : Kept (fun g => g < w.heap.size ∧ (D 6 = true → g ≠ g6)) w (puts w g6 0 [c0, c1, c2, c3, c4, c5]) := fun g hg _ => puts_other g6 g (hg.2 h6d) _ w 0
  have hc : ∀ g, g < w.heap.size ∧ (D 6 = true → g ≠ g6) → g < (puts w g6 0 [c0, c1, c2, c3, c4, c5]).heap.size ∧ (setD D 7 6 = true → g ≠ g6) := fun g hg => ⟨Nat.lt_of_lt_of_le hg.1 hbp.size, fun _ => hg.2 h6d⟩
  refine ⟨h0.trans ((hbp.mono hl6)), h1, h2, h3, h4, g6, fun _ => ⟨e6, hl6, Nat.lt_of_lt_of_le hg6 hbp.size, fun e => absurd (show (true : Bool) = false from e) (by decide)⟩, fun _ => ⟨c0, c1, c2, c3, c4, c5, e2, hv.kept hkp hc, fun _ => hbx.put _ _ _ _ _ _⟩, fun e => ?_, fun _ => ⟨h2d, h6d⟩, h9⟩
  obtain ⟨a, c, b, d⟩ := h7 e
  exact ⟨a, c, b, d.kept hkp hc (fun _ _ z => VIn.kept hkp hc z)⟩
/-- The row is handed on. -/
theorem LInv.handed (h : LInv W3 dv pv H x al D V w) (h5d : D 5 = true) : LInv W3 dv pv H x al (setD D 8) (upd V 8 (V 5)) w := by
  obtain ⟨h0, h1, h2, h3, h4, g6, h5, h6, h7, h8, h9⟩ := h
  exact ⟨h0, h1, h2, h3, h4, g6, h5, h6, h7, h8, fun _ => ⟨h5d, rfl⟩⟩
/-- The drawn region is done: what stands. -/
theorem LInv.done {ys : List Val} (h : LInv W3 dv pv (H + 1) (Bson.listOf ys) al D V w) (h2d : D 2 = true) (h6d : D 6 = true) (h7d : D 7 = true) (h8d : D 8 = true) : LFin W3 H ys al (V 6) (V 8) w := by
  obtain ⟨h0, h1, h2, h3, h4, g6, h5, h6, h7, h8, h9⟩ := h
  obtain ⟨e6, hl6, hg6, _⟩ := h5 h6d
  obtain ⟨c0, c1, c2, c3, c4, c5, _, hv, hbx⟩ := h6 h2d
  obtain ⟨h5d, e8⟩ := h9 h8d
  obtain ⟨a, c, e5, hit⟩ := h7 h5d
  have hbx := hbx h7d
  obtain ⟨ba, fa, la, bc, fc, lc, e, _, _, _, _, _, _, hl⟩ := hv
  unfold agg at e
  injection e with e
  simp only [Array.mk.injEq, List.cons.injEq, and_true] at e
  obtain ⟨rfl, rfl, rfl, rfl, rfl, rfl⟩ := e
  exact ⟨g6, ba, bc, fa, fc, la, lc, a, c, e6, e8.trans e5, h0, hl6, hg6, hbx, hl.kept (Kept.of_below (Below.refl _ _)) (fun g hg => hg.1) (fun _ _ z => VIn.kept (Kept.of_below (Below.refl _ _)) (fun g hg => hg.1) z), hit.kept (Kept.of_below (Below.refl _ _)) (fun g hg => hg.1) (fun _ _ z => VIn.kept (Kept.of_below (Below.refl _ _)) (fun g hg => hg.1) z)⟩
/-- An item that is no document and no list: nothing is gathered, nothing asked. -/
theorem LRow.skip {Q : Nat → Prop} {h : Nat} {nm : ByteArray} {l : List Val} {wc wr : World} {k q : Nat} {v : Value} (hr : LRow Q h nm l al wc k q v wr) (hk : k < l.length) (h6 : l[k].kind ≠ 6) (h7 : l[k].kind ≠ 7) (hb : Below wr.heap.size wr w') : LRow Q h nm l al wc (k + 1) q v w' := by
  obtain ⟨⟨xs, ha⟩, hw, hq, hl⟩ := hr
  have e1 : Bson.gotten (h + 2) nm (l.take (k + 1)) = Bson.gotten (h + 2) nm (l.take k) := by
    rw [Bson.gotten_next _ _ _ _ hk, Bson.reach_other _ _ _ _ h6 h7, if_neg (by decide), List.append_nil]
  have e2 : Bson.asked nm (l.take (k + 1)) = Bson.asked nm (l.take k) := by
    rw [Bson.asked_next _ _ _ hk, if_neg h6, List.append_nil]
  exact ⟨⟨xs, by rw [e1]; exact ha.keep hb⟩, hw.trans (hb.mono hw.size), by rw [e2]; exact hq, hl⟩
/-- A list within the list: what it gathers is pushed; nothing is asked. -/
theorem LRow.list {Q : Nat → Prop} {h : Nat} {nm : ByteArray} {l : List Val} {wc : World} {k q : Nat} {v' : Value} {xs' : List Value} (hk : k < l.length) (h7 : l[k].kind = 7) (hb : Below wc.heap.size wc w')
    (ha : Acc w' wc.heap.size v' (fun g => Q g ∨ wc.heap.size ≤ g) (h + 1) (Bson.gotten (h + 2) nm (l.take k) ++ [Bson.reach (h + 2) l[k] [nm]]) xs') (hq : q = (Bson.asked nm (l.take k)).length) (hl : q ≤ al.length) : LRow Q h nm l al wc (k + 1) q v' w' := by
  have e1 : Bson.gotten (h + 2) nm (l.take (k + 1)) = Bson.gotten (h + 2) nm (l.take k) ++ [Bson.reach (h + 2) l[k] [nm]] := by
    rw [Bson.gotten_next _ _ _ _ hk, if_pos (by rw [Bson.reach_one_list _ _ _ h7]; decide)]
  have e2 : Bson.asked nm (l.take (k + 1)) = Bson.asked nm (l.take k) := by
    rw [Bson.asked_next _ _ _ hk, if_neg (by rw [h7]; decide), List.append_nil]
  exact ⟨⟨xs', by rw [e1]; exact ha⟩, hb, by rw [e2]; exact hq, hl⟩
/-- A document of the list: its field is gathered, or is Missing. -/
theorem gotten_doc (h : Nat) (nm : ByteArray) (l : List Val) (k : Nat) (hk : k < l.length) (h6 : l[k].kind = 6) : Bson.gotten (h + 2) nm (l.take (k + 1)) = Bson.gotten (h + 2) nm (l.take k) ++ (if (Bson.fieldIn l[k].f nm).kind ≠ 0 then [Bson.fieldIn l[k].f nm] else []) := by
  rw [Bson.gotten_next _ _ _ _ hk, Bson.reach_one _ _ _ h6]
/-- Behind the first test of a document of the list: its field is pushed, its box stands. -/
def LDoc (Q : Nat → Prop) (h : Nat) (nm : ByteArray) (l : List Val) (wc : World) (k : Nat) (B : Nat) (fv : Val) (c0 c1 c2 c3 c4 c5 : Value) (lo : Nat) (u9 : Value) (W : World) : Prop :=
  ∃ v9 xs, v9 = u9 ∧ Acc W wc.heap.size v9 (fun g => Q g ∨ wc.heap.size ≤ g) (h + 1) (Bson.gotten (h + 2) nm (l.take (k + 1))) xs ∧ Below wc.heap.size wc W ∧ IsBox W B c0 c1 c2 c3 c4 c5 ∧ VIn W Q (h + 1) fv (.agg #[c0, c1, c2, c3, c4, c5]) ∧ lo ≤ W.heap.size
/-- A value's last part: its items. -/
theorem VIn.lastly {w : World} {Q : Nat → Prop} {h : Nat} {x : Val} {c0 c1 c2 c3 c4 : Value} {la : Option Addr} {ll lc : Nat} (hv : VIn w Q (h + 1) x (.agg #[c0, c1, c2, c3, c4, .slice la ll lc])) : ll = x.l.length ∧ c0 = .int .i64 x.kind ∧ ItemsIn w Q (VIn w Q h) la x.l := by
  obtain ⟨ba, fa, la', bc, fc, lc', e, _, _, _, _, _, _, hl⟩ := hv
  unfold agg at e
  injection e with e
  simp only [Array.mk.injEq, List.cons.injEq, and_true] at e
  obtain ⟨rfl, rfl, rfl, rfl, rfl, e⟩ := e
  injection e with e1 e2 e3
  subst e1 e2 e3
  exact ⟨rfl, rfl, hl⟩
/-- The item of a row at a place, with its cells. -/
theorem ItemsIn.at_ {w w' : World} {Q Q' : Nat → Prop} {H : Nat} {al : List Val} {a : Option Addr} (hI : ItemsIn w Q (VIn w Q' H) a al) (hb : Below w.heap.size w w') {q : Nat} {v : Val} (hq : al[q]? = some v) :
    ∃ g o c0 c1 c2 c3 c4 c5, a = some ⟨g, o, none⟩ ∧ q < al.length ∧ VIn w' Q' H v (.agg #[c0, c1, c2, c3, c4, c5]) ∧ w'.cell? ⟨g, o + q * 6, none⟩ = some c0 ∧ w'.cell? ⟨g, o + q * 6 + 1, none⟩ = some c1 ∧ w'.cell? ⟨g, o + q * 6 + 2, none⟩ = some c2 ∧ w'.cell? ⟨g, o + q * 6 + 3, none⟩ = some c3 ∧ w'.cell? ⟨g, o + q * 6 + 4, none⟩ = some c4 ∧ w'.cell? ⟨g, o + q * 6 + 5, none⟩ = some c5 := by
  obtain ⟨hql, hqv⟩ := List.getElem?_eq_some_iff.1 hq
  obtain ⟨g, o, e, _, hall⟩ := hI.resolve_left (fun e => by rw [e] at hql; simp at hql)
  obtain ⟨va, hsix, hva⟩ := hall q hql
  obtain ⟨d0, d1, d2, d3, d4, d5, rfl, s0, s1, s2, s3, s4, s5⟩ := hsix.keep hb
  rw [hqv] at hva
  exact ⟨g, o, d0, d1, d2, d3, d4, d5, e, hql, VIn.keep hb hva, s0, s1, s2, s3, s4, s5⟩
/-- A document of the list is done: all its answers have been met. -/
theorem LRow.doc {Q : Nat → Prop} {h : Nat} {nm : ByteArray} {l : List Val} {wc w' : World} {k q n : Nat} {v : Value} {xs : List Value} (hal : al = if Bson.asked nm l = [] then [Bson.zero] else Bson.asked nm l) (hk : k < l.length) (h6 : l[k].kind = 6)
    (ha : Acc w' wc.heap.size v (fun g => Q g ∨ wc.heap.size ≤ g) (h + 1) (Bson.gotten (h + 2) nm (l.take (k + 1))) xs) (hb : Below wc.heap.size wc w') (hq : q = (Bson.asked nm (l.take k)).length) (hn : n = if (Bson.fieldIn l[k].f nm).kind = 7 then (Bson.fieldIn l[k].f nm).l.length else 0) : LRow Q h nm l al wc (k + 1) (q + 1 + n) v w' := by
  have e : q + 1 + n = (Bson.asked nm (l.take (k + 1))).length := by rw [Bson.asked_take nm l k hk h6, hq, hn]
  exact ⟨⟨xs, ha⟩, hb, e, by rw [e]; exact Bson.asked_fits nm l al hal (k + 1)⟩
end
end Go.Proofs.YtdgncpoephdboaaDoor
end
section
namespace Go.Proofs.YtdgncpoephdboaaDoor
open Go.RowKit
open Seal
open Bson (Val)
/-- Six cells of a list of cells, as a value. -/
def CellsAt (w : World) (Q : Nat → Prop) (h : Nat) (l : List Val) (news : List Value) : Prop := ∀ i (hi : i < l.length), ∃ c0 c1 c2 c3 c4 c5, news[i * 6]? = some c0 ∧ news[i * 6 + 1]? = some c1 ∧ news[i * 6 + 2]? = some c2 ∧ news[i * 6 + 3]? = some c3 ∧ news[i * 6 + 4]? = some c4 ∧ news[i * 6 + 5]? = some c5 ∧ VIn w Q h l[i] (.agg #[c0, c1, c2, c3, c4, c5])
theorem Acc.append {w w' : World} {base : Nat} {v v' : Value} {QA : Nat → Prop} {h : Nat} {ys zs : List Val} {xs news : List Value} (ha : Acc w base v QA h ys xs) (hw : Wrote w w' v v') (hown : w'.ownsRow base 27 6 v' (ys.length + zs.length) (xs ++ news))
    (hv : CellsAt w (fun g => QA g ∧ v.ownBlock ≠ some g) h zs news) (_hl : news.length = zs.length * 6) : Acc w' base v' QA h (ys ++ zs) (xs ++ news) := by
  have hxl : xs.length = ys.length * 6 := ha.own.1
  refine ⟨by rw [List.length_append]; exact hown, fun i hi => ?_⟩
  rw [List.length_append] at hi
  rcases Nat.lt_or_ge i ys.length with hlt | hge
  · obtain ⟨d0, d1, d2, d3, d4, d5, h0, h1, h2, h3, h4, h5, hd⟩ := ha.at' i hlt
    have e : ∀ j, j < 6 → (xs ++ news)[i * 6 + j]? = xs[i * 6 + j]? := fun j hj => List.getElem?_append_left (by omega)
    refine ⟨d0, d1, d2, d3, d4, d5, (e 0 (by omega)).trans h0, (e 1 (by omega)).trans h1, (e 2 (by omega)).trans h2, (e 3 (by omega)).trans h3, (e 4 (by omega)).trans h4, (e 5 (by omega)).trans h5, ?_⟩
    rw [List.getElem_append_left hlt]
    exact hw.vin hd
  · obtain ⟨j, rfl⟩ : ∃ j, i = ys.length + j := ⟨i - ys.length, by omega⟩
    obtain ⟨d0, d1, d2, d3, d4, d5, h0, h1, h2, h3, h4, h5, hd⟩ := hv j (by omega)
    have e : ∀ r, (xs ++ news)[(ys.length + j) * 6 + r]? = news[j * 6 + r]? := fun r => by
      rw [List.getElem?_append_right (by omega)]; congr 1; omega
    refine ⟨d0, d1, d2, d3, d4, d5, (e 0).trans h0, (e 1).trans h1, (e 2).trans h2, (e 3).trans h3, (e 4).trans h4, (e 5).trans h5, ?_⟩
    rw [List.getElem_append_right (by omega)]
    simp only [Nat.add_sub_cancel_left]
    exact hw.vin hd
/-- The cells of a row of values in memory. -/
theorem items_src {w : World} {Q : Nat → Prop} {h : Nat} {ad : Addr} {l : List Val} (hI : ItemsIn w Q (VIn w Q h) (some ad) l) (hl : l ≠ []) :
    ∃ news : List Value, news.length = l.length * 6 ∧ (∀ j u, news[j]? = some u → w.cell? (ad.add j) = some u) ∧ (∀ u ∈ news, u.oneCell' = true) ∧ CellsAt w Q h l news := by
  obtain ⟨g, o, e, _, hall⟩ := hI.resolve_left hl
  obtain rfl := Option.some.inj e
  have hc : ∀ i (hi : i < l.length), ∃ c0 c1 c2 c3 c4 c5, (w.cell? ⟨g, o + (i * 6), none⟩ = some c0 ∧ w.cell? ⟨g, o + (i * 6 + 1), none⟩ = some c1 ∧ w.cell? ⟨g, o + (i * 6 + 2), none⟩ = some c2 ∧ w.cell? ⟨g, o + (i * 6 + 3), none⟩ = some c3 ∧ w.cell? ⟨g, o + (i * 6 + 4), none⟩ = some c4 ∧ w.cell? ⟨g, o + (i * 6 + 5), none⟩ = some c5) ∧ VIn w Q h l[i] (.agg #[c0, c1, c2, c3, c4, c5]) ∧ (c0.oneCell' = true ∧ c1.oneCell' = true ∧ c2.oneCell' = true ∧ c3.oneCell' = true ∧ c4.oneCell' = true ∧ c5.oneCell' = true) := by
    intro i hi
    obtain ⟨v, hs, hv⟩ := hall i hi
    obtain ⟨k, n, s, ba, fa, la, bl, bc, fl, fc, ll, lc, rfl⟩ := hv.shape
    obtain ⟨h0, h1, h2, h3, h4, h5⟩ := hs.cells
    refine ⟨_, _, _, _, _, _, ⟨h0, ?_, ?_, ?_, ?_, ?_⟩, hv, rfl, rfl, rfl, rfl, rfl, rfl⟩
    all_goals rw [← Nat.add_assoc]; assumption
  refine ⟨(List.range (l.length * 6)).map fun j => (w.cell? ⟨g, o + j, none⟩).getD undef, by simp, ?_, ?_, ?_⟩
  · intro j u hj
    rw [List.getElem?_map] at hj
    have hjl : j < l.length * 6 := by
      rcases Nat.lt_or_ge j (l.length * 6) with h1 | h1
      · exact h1
      · rw [List.getElem?_eq_none (by simpa using h1)] at hj; cases hj
    rw [List.getElem?_range hjl] at hj
    have hu : (w.cell? ⟨g, o + j, none⟩).getD undef = u := Option.some.inj hj
    obtain ⟨c0, c1, c2, c3, c4, c5, ⟨h0, h1, h2, h3, h4, h5⟩, _⟩ := hc (j / 6) (by omega)
    rw [Addr.add_mid]
    have hr : j % 6 = 0 ∨ j % 6 = 1 ∨ j % 6 = 2 ∨ j % 6 = 3 ∨ j % 6 = 4 ∨ j % 6 = 5 := by omega
    rcases hr with hr | hr | hr | hr | hr | hr
    · rw [show j = j / 6 * 6 by omega, h0] at hu ⊢; rw [← hu]; rfl
    · rw [show j = j / 6 * 6 + 1 by omega, h1] at hu ⊢; rw [← hu]; rfl
    · rw [show j = j / 6 * 6 + 2 by omega, h2] at hu ⊢; rw [← hu]; rfl
    · rw [show j = j / 6 * 6 + 3 by omega, h3] at hu ⊢; rw [← hu]; rfl
    · rw [show j = j / 6 * 6 + 4 by omega, h4] at hu ⊢; rw [← hu]; rfl
    · rw [show j = j / 6 * 6 + 5 by omega, h5] at hu ⊢; rw [← hu]; rfl
  · intro u hu
    obtain ⟨j, hj, rfl⟩ := List.mem_map.1 hu
    rw [List.mem_range] at hj
    obtain ⟨c0, c1, c2, c3, c4, c5, ⟨h0, h1, h2, h3, h4, h5⟩, _, o0, o1, o2, o3, o4, o5⟩ := hc (j / 6) (by omega)
    have hr : j % 6 = 0 ∨ j % 6 = 1 ∨ j % 6 = 2 ∨ j % 6 = 3 ∨ j % 6 = 4 ∨ j % 6 = 5 := by omega
    rcases hr with hr | hr | hr | hr | hr | hr
    · rw [show j = j / 6 * 6 by omega, h0]; exact o0
    · rw [show j = j / 6 * 6 + 1 by omega, h1]; exact o1
    · rw [show j = j / 6 * 6 + 2 by omega, h2]; exact o2
    · rw [show j = j / 6 * 6 + 3 by omega, h3]; exact o3
    · rw [show j = j / 6 * 6 + 4 by omega, h4]; exact o4
    · rw [show j = j / 6 * 6 + 5 by omega, h5]; exact o5
  · intro i hi
    obtain ⟨c0, c1, c2, c3, c4, c5, ⟨h0, h1, h2, h3, h4, h5⟩, hv, _⟩ := hc i hi
    have e : ∀ j c, j < 6 → w.cell? ⟨g, o + (i * 6 + j), none⟩ = some c → ((List.range (l.length * 6)).map fun j => (w.cell? ⟨g, o + j, none⟩).getD undef)[i * 6 + j]? = some c := fun j c hj hcell => by
      rw [List.getElem?_map, List.getElem?_range (by omega)]
      simp [hcell]
    exact ⟨c0, c1, c2, c3, c4, c5, e 0 _ (by omega) h0, e 1 _ (by omega) h1, e 2 _ (by omega) h2, e 3 _ (by omega) h3, e 4 _ (by omega) h4, e 5 _ (by omega) h5, hv⟩
theorem items_src' {w : World} {Q : Nat → Prop} {h H : Nat} {la : Option Addr} {l : List Val} (hI : ItemsIn w Q (VIn w Q h) la l) (hH : h ≤ H) :
    ∃ news : List Value, news.length = l.length * 6 ∧ (l.length = 0 ∨ ∃ b, la = some b ∧ ∀ j u, news[j]? = some u → w.cell? (b.add j) = some u) ∧ (∀ u ∈ news, u.oneCell' = true) ∧ CellsAt w Q H l news := by
  cases l with
  | nil => exact ⟨[], rfl, .inl rfl, by simp, fun i hi => by simp at hi⟩
  | cons y t =>
    obtain ⟨g, o, rfl, _⟩ := id hI |>.resolve_left (by simp)
    obtain ⟨news, h1, h2, h3, h4⟩ := items_src hI (by simp)
    refine ⟨news, h1, .inr ⟨_, rfl, h2⟩, h3, fun i hi => ?_⟩
    obtain ⟨c0, c1, c2, c3, c4, c5, e0, e1, e2, e3, e4, e5, hv⟩ := h4 i hi
    exact ⟨c0, c1, c2, c3, c4, c5, e0, e1, e2, e3, e4, e5, hv.up hH⟩
theorem VIn.items {w : World} {Q : Nat → Prop} {h : Nat} {x : Val} {c0 c1 c2 c3 c4 : Value} {la : Option Addr} {ln lc : Nat} (hv : VIn w Q (h + 1) x (.agg #[c0, c1, c2, c3, c4, .slice la ln lc])) : ln = x.l.length ∧ ItemsIn w Q (VIn w Q h) la x.l := by
  obtain ⟨ba, fa, la', bc, fc, lc', e, _, _, _, _, _, _, hI⟩ := hv
  unfold agg at e
  injection e with e; injection e with e
  injection e with _ e; injection e with _ e; injection e with _ e; injection e with _ e; injection e with _ e; injection e with e _
  injection e with e1 e2 _
  subst e1
  exact ⟨e2, hI⟩
section
variable {P : Program}
/-- Nothing appended: the row stays. -/
theorem run_zero (w : World) (base : Nat) (t ty e : TypeId) (i : TypeInfo) (ht : P.underlying t = some (.slice e)) (hi : P.info? e = some i) (size : Nat) (a : Option Addr) (c : Nat)
    (v : Value) (n : Nat) (xs : List Value) (hown : w.ownsRow base e size v n xs) : (Builtin.append_ #[t, t] ty #[v, .slice a 0 c]).run P w = .ok v w := by
  obtain ⟨_, ⟨rfl, rfl⟩ | ⟨g, cap, cur, rfl, _, _, hnc, _⟩⟩ := hown
  · cases a with
    | none => simp [Builtin.append_, run_underlying ht, sizeOf, typeInfo, hi, Builtin.lenOf, Builtin.firstCells]
    | some p => simp [Builtin.append_, run_underlying ht, sizeOf, typeInfo, hi, Builtin.lenOf, Builtin.firstCells, loadCells, loadCellsFrom]
  · cases a with
    | none => simp [Builtin.append_, run_underlying ht, sizeOf, typeInfo, hi, Builtin.lenOf, Builtin.firstCells, hnc, storeCells]
    | some p => simp [Builtin.append_, run_underlying ht, sizeOf, typeInfo, hi, Builtin.lenOf, Builtin.firstCells, hnc, loadCells, loadCellsFrom, storeCells]
/-- append of m elements, m whatever, whatever the source's address. -/
theorem wpList_append_any {w : World} {ops : Array Oper} {rest : List Oper} {o : Oper} {a : Act} {Q : Exit → Act → World → Prop} (hgd : o.guard = none) (s x : Operand) (t : TypeId)
    (ho : o.op = .call { callee := .builtin .append, args := #[s, x], argTypes := #[t, t] })
    (base : Nat) (e : TypeId) (i : TypeInfo) (z : Value) (size bytes : Nat) (ht : P.underlying t = some (.slice e)) (hi : P.info? e = some i) (hz : i.zero = some z)
    (hsize : i.size = size) (hby : i.bytes = bytes) (hzs : z.cells.size = size) (v : Value) (n : Nat) (xs : List Value) (hs : a.eval s = v) (hown : w.ownsRow base e size v n xs)
    (ad : Option Addr) (m c : Nat) (news : List Value) (hx : a.eval x = .slice ad m c) (hl : news.length = m * size) (hsz : 0 < size) (hnews : m = 0 ∨ ∃ b, ad = some b ∧ ∀ j u, news[j]? = some u → w.cell? (b.add j) = some u) (h1 : ∀ u ∈ news, u.oneCell' = true)
    (h63 : n + m ≤ maxLen) (hbytes : (n + m) * bytes ≤ 140737488355328) (hbase : base ≤ w.heap.size)
    (h : ∀ v' w', w'.ownsRow base e size v' (n + m) (xs ++ news) → Wrote w w' v v' → wpList P ops Q rest (a.put o.dst v') w') : wpList P ops Q (o :: rest) a w := by
  refine wpList_plain hgd fun K hK => ?_
  obtain ⟨v', w', hr, h2, h3⟩ : ∃ v' w', (Builtin.append_ #[t, t] o.type #[v, .slice ad m c]).run P w = .ok v' w' ∧ w'.ownsRow base e size v' (n + m) (xs ++ news) ∧ Wrote w w' v v' := by
    rcases Nat.eq_zero_or_pos m with rfl | hm
    · obtain rfl : news = [] := List.eq_nil_of_length_eq_zero (by simpa using hl)
      exact ⟨v, w, run_zero w base t o.type e i ht hi size ad c v n xs hown, by simpa using hown, Wrote.refl _ _⟩
    · obtain ⟨b, rfl, hcell⟩ := hnews.resolve_left (by omega)
      obtain ⟨v', w', hr, h2, h3⟩ := run_append_sz (P := P) w base t o.type e i z size bytes ht hi hz hsize hby hzs v n xs hown b m c news hl hm hsz hcell h1 h63 hbytes hbase
      exact ⟨v', w', hr, h2, Wrote.of_lies h3⟩
  unfold Oper.wp execOp
  simp only [ho, resolve, invoke, builtin, Sem.run_bind, Sem.run_pure, Result.andThen_ok, List.map_toArray, List.map_cons, List.map_nil, hs, hx, hr]
  exact hK _ _ (h v' w' h2 h3)
end
end Go.Proofs.YtdgncpoephdboaaDoor
end
