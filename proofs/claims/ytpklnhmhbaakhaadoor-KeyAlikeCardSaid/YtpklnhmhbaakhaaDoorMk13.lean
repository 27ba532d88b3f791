/- OrderCmpL, KeyDo, OrderCmpF, KeyFields, KeyItems. -/
import Derived.Test.YtpklnhmhbaakhaaDoorMk11
import Derived.Test.YtpklnhmhbaakhaaDoorMk7
import Derived.Test.YtpklnhmhbaakhaaDoorMk8
import Derived.Test.YtpklnhmhbaakhaaDoorMk12
import Derived.Test.YtpklnhmhbaakhaaDoorMk5
import Derived.Test.YtpklnhmhbaakhaaDoorMk9
set_option maxRecDepth 100000
section
namespace Go.Proofs.YtpklnhmhbaakhaaDoor
open Go.RowKit
open Seal
open Bson (Val)
theorem VIn.kind_is {w : World} {Q : Nat → Prop} : ∀ {h : Nat} {x : Val} {k n : Int} {s : ByteArray} {ba fa la : Option Addr} {bn bc fn fc ln lc : Nat}, VIn w Q h x (.agg #[.int .i64 k, .int .i64 n, .string s, .slice ba bn bc, .slice fa fn fc, .slice la ln lc]) → k = x.kind
  | 0, _, _, _, _, _, _, _, _, _, _, _, _, _, hv => hv.elim
  | h + 1, x, k, n, s, ba, fa, la, bn, bc, fn, fc, ln, lc, hv => by
    obtain ⟨ba', fa', la', bc', fc', lc', e, _⟩ := hv
    unfold agg at e
    injection e with e; injection e with e; injection e with e; injection e with e _
theorem VIn.kind_bd {w : World} {Q : Nat → Prop} : ∀ {h : Nat} {x : Val} {k n : Int} {s : ByteArray} {ba fa la : Option Addr} {bn bc fn fc ln lc : Nat}, VIn w Q h x (.agg #[.int .i64 k, .int .i64 n, .string s, .slice ba bn bc, .slice fa fn fc, .slice la ln lc]) → -9223372036854775808 ≤ k ∧ k ≤ 9223372036854775807
  | 0, _, _, _, _, _, _, _, _, _, _, _, _, _, hv => hv.elim
  | h + 1, x, k, n, s, ba, fa, la, bn, bc, fn, fc, ln, lc, hv => by
    have e := hv.kind_is
    obtain ⟨_, _, _, _, _, _, _, hL, _⟩ := hv
    have h0 := hL.k0; have h1 := hL.k1
    omega
/-- A number, and nothing old has turned. -/
def CmpPost (n : Int) (w : World) (e : Ending) (w' : World) : Prop := e = .returned (.int .i64 n) ∧ Below w.heap.size w w'
def LexGo {α : Type} (c : α → α → Int) (l m : List α) (k : Nat) : Prop := Order.lex c l m = Order.lex c (l.drop k) (m.drop k)
section
variable {α : Type} {c : α → α → Int} {l m : List α} {k n n2 : Nat}
theorem LexGo.next (h : LexGo c l m k) (ha : k < l.length) (hb : k < m.length) (e : c l[k] m[k] = 0) : LexGo c l m (k + 1) := by
  unfold LexGo at h ⊢; rw [h]; exact Order.lex_step ha hb e
theorem LexGo.here (h : LexGo c l m k) (ha : k < l.length) (hb : k < m.length) (e : ¬ c l[k] m[k] = 0) : Order.lex c l m = c l[k] m[k] := by
  unfold LexGo at h; rw [h]; exact Order.lex_here ha hb e
theorem LexGo.last (h : LexGo c l m k) (ha : k ≤ l.length) (hb : k ≤ m.length) (e : ¬ (k < l.length ∧ k < m.length)) : Order.lex c l m = Order.sgn (l.length : Int) (m.length : Int) := by
  unfold LexGo at h; rw [h]; exact Order.lex_end ha hb (by omega)
end
end Go.Proofs.YtpklnhmhbaakhaaDoor
end
section
namespace Go.Proofs.YtpklnhmhbaakhaaDoor
open Go.RowKit
open Seal
open Bson (Val)
/-- The variable that strings.Index reads. -/
def Maxl (w : World) (base : Nat) : Prop := 2 < base ∧ ∃ m, w.cell? ⟨2, 0, none⟩ = some (.int .i64 m)
theorem Maxl.keep {w w' : World} {base : Nat} (h : Maxl w base) (hb : Below base w w') : Maxl w' base := by
  obtain ⟨h1, m, h2⟩ := h
  exact ⟨h1, m, (World.cell?_of_block (a := ⟨2, 0, none⟩) (hb.block _ h1)).trans h2⟩
theorem Maxl.mono {w : World} {b b' : Nat} (h : Maxl w b) (hb : b ≤ b') : Maxl w b' := ⟨Nat.lt_of_lt_of_le h.1 hb, h.2⟩
theorem Maxl.newer {w w' : World} {base : Nat} (h : Maxl w base) (hb : Below w.heap.size w w') : Maxl w' base := by
  obtain ⟨h1, m, h2⟩ := h
  exact ⟨h1, m, cell_keep hb h2⟩
/-- What is put: the bytes, if it answers true; it answers false where it may not be. -/
def PutPost (w : World) (gp base : Nat) (l add : List Nat) (v : Value) (p : Prop) (e : Ending) (w' : World) : Prop :=
  ∃ b v' l', e = .returned (.bool b) ∧ Pen w' gp base l' v' ∧ PMv gp w w' v v' ∧ (b = true → l' = l ++ add ∧ p) ∧ (b = false → ¬ p)
theorem kept_base {w w' : World} {Q : Nat → Prop} {base : Nat} (hb : Below base w w') (hQ : ∀ g, Q g → g < base) : Kept Q w w' := fun g hg _ => hb.block g (hQ g hg)
theorem VIn.kind_eq {w : World} {Q : Nat → Prop} {h : Nat} {x : Val} {k n : Int} {s : ByteArray} {ba fa la : Option Addr} {bn bc fn fc ln lc : Nat} (hv : VIn w Q h x (.agg #[.int .i64 k, .int .i64 n, .string s, .slice ba bn bc, .slice fa fn fc, .slice la ln lc])) : k = x.kind := by
  cases h with
  | zero => exact hv.elim
  | succ h =>
    obtain ⟨ba', fa', la', bc', fc', lc', e, _⟩ := hv
    unfold agg at e
    injection e with e; injection e with e; injection e with e _
    injection e
def BehDo (L h : Nat) : Prop := ∀ (Q : Nat → Prop) (x : Val) (u : Value) (w : World) (gp base : Nat) (l : List Nat) (v : Value), VIn w Q h x u → (∀ g, Q g → g < base) → Pen w gp base l v → Maxl w base →
  l.length + (Key.beh L x).length ≤ 2147483648 → Calls Tryd.prog 56 #[.pointer (some ⟨gp, 0, none⟩), u, .int .i64 (L : Int)] w (PutPost w gp base l (Key.beh L x) v (Key.fits L x))
def ValDo (L h : Nat) : Prop := ∀ (Q : Nat → Prop) (x : Val) (u : Value) (w : World) (gp base : Nat) (l : List Nat) (v : Value), VIn w Q h x u → (∀ g, Q g → g < base) → Pen w gp base l v → Maxl w base →
  l.length + (Key.valB L x).length ≤ 2147483648 → Calls Tryd.prog 43 #[.pointer (some ⟨gp, 0, none⟩), u, .int .i64 (L : Int)] w (PutPost w gp base l (Key.valB L x) v (Key.fits L x))
def FieldsPut (L h : Nat) : Prop := ∀ (Q : Nat → Prop) (f : List (ByteArray × Val)) (a : Option Addr) (n c : Nat) (w : World) (gp base : Nat) (l : List Nat) (v : Value), f.length = n → n ≤ 1172812402961 → FieldsIn w Q (VIn w Q h) a f → (∀ g, Q g → g < base) → Pen w gp base l v → Maxl w base →
  l.length + (Key.rowB (Key.fldB L) f).length ≤ 2147483648 → Calls Tryd.prog 68 #[.pointer (some ⟨gp, 0, none⟩), .slice a n c, .int .i64 (L : Int)] w (PutPost w gp base l (Key.rowB (Key.fldB L) f) v (∀ p ∈ f, Key.fits L p.2))
def ItemsPut (L h : Nat) : Prop := ∀ (Q : Nat → Prop) (f : List Val) (a : Option Addr) (n c : Nat) (w : World) (gp base : Nat) (l : List Nat) (v : Value), f.length = n → n ≤ 1353245080339 → ItemsIn w Q (VIn w Q h) a f → (∀ g, Q g → g < base) → Pen w gp base l v → Maxl w base →
  l.length + (Key.rowB (Key.valB L) f).length ≤ 2147483648 → Calls Tryd.prog 69 #[.pointer (some ⟨gp, 0, none⟩), .slice a n c, .int .i64 (L : Int)] w (PutPost w gp base l (Key.rowB (Key.valB L) f) v (∀ y ∈ f, Key.fits L y))
/-- Items without the end. -/
def rowP {α : Type} (e : α → List Nat) : List α → List Nat
  | [] => []
  | a :: r => e a ++ rowP e r
theorem rowB_P {α : Type} (e : α → List Nat) : ∀ l : List α, Key.rowB e l = rowP e l ++ [0]
  | [] => rfl
  | a :: r => by rw [Key.rowB, rowP, rowB_P e r, List.append_assoc]
theorem rowP_app {α : Type} (e : α → List Nat) : ∀ l m : List α, rowP e (l ++ m) = rowP e l ++ rowP e m
  | [], _ => rfl
  | a :: r, m => by rw [List.cons_append, rowP, rowP, rowP_app e r m, List.append_assoc]
theorem rowP_snoc {α : Type} (e : α → List Nat) (l : List α) (k : Nat) (hk : k < l.length) : rowP e (l.take (k + 1)) = rowP e (l.take k) ++ e l[k] := by
  rw [List.take_succ_eq_append_getElem hk, rowP_app]
  show _ ++ (e l[k] ++ []) = _
  rw [List.append_nil]
theorem rowP_room {α : Type} (e : α → List Nat) (l : List α) (k : Nat) (hk : k < l.length) : (rowP e (l.take k)).length + (e l[k]).length + 1 ≤ (Key.rowB e l).length := by
  have h1 : l = l.take (k + 1) ++ l.drop (k + 1) := (List.take_append_drop _ _).symm
  have h2 : (rowP e l).length = (rowP e (l.take (k + 1))).length + (rowP e (l.drop (k + 1))).length := by
    rw [← List.length_append, ← rowP_app, ← h1]
  rw [rowP_snoc e l k hk, List.length_append] at h2
  rw [rowB_P, List.length_append]
  simp only [List.length_cons, List.length_nil]
  omega
/-- A cell that is neither the pen's nor its row's. -/
theorem PMv.cell {gp : Nat} {w w' : World} {v v' : Value} (h : PMv gp w w' v v') {g o : Nat} {c : Value} (hc : w.cell? ⟨g, o, none⟩ = some c) (h1 : g ≠ gp) (h2 : v.ownBlock ≠ some g) : w'.cell? ⟨g, o, none⟩ = some c :=
  (World.cell?_of_block (a := ⟨g, o, none⟩) (h.block g (World.block_lt_of_cell? w _ hc) h1 h2)).trans hc
/-- A box that was laid behind the pen is neither. -/
theorem Pen.box {gp base : Nat} {l : List Nat} {w : World} {v : Value} (h : Pen w gp base l v) : w.heap.size ≠ gp ∧ v.ownBlock ≠ some w.heap.size :=
  ⟨by have := h.lt; omega, fun e => by have := (owns_block h.own e).2; omega⟩
/-- A box of seven cells. -/
def SevenIs (W : World) (n : Nat) (c0 c1 c2 c3 c4 c5 c6 : Value) : Prop := W.cell? ⟨n, 0, none⟩ = some c0 ∧ W.cell? ⟨n, 1, none⟩ = some c1 ∧ W.cell? ⟨n, 2, none⟩ = some c2 ∧ W.cell? ⟨n, 3, none⟩ = some c3 ∧ W.cell? ⟨n, 4, none⟩ = some c4 ∧ W.cell? ⟨n, 5, none⟩ = some c5 ∧ W.cell? ⟨n, 6, none⟩ = some c6
theorem SevenIs.new (w : World) (c0 c1 c2 c3 c4 c5 c6 : Value) (t : TypeId) : SevenIs (w.alloc (.cells #[c0, c1, c2, c3, c4, c5, c6] t)) w.heap.size c0 c1 c2 c3 c4 c5 c6 := by
  have e := heap_alloc_new w (.cells #[c0, c1, c2, c3, c4, c5, c6] t)
  exact ⟨(cell_of_row _ _ 0 _ _ _ e).trans rfl, (cell_of_row _ _ 1 _ _ _ e).trans rfl, (cell_of_row _ _ 2 _ _ _ e).trans rfl, (cell_of_row _ _ 3 _ _ _ e).trans rfl, (cell_of_row _ _ 4 _ _ _ e).trans rfl, (cell_of_row _ _ 5 _ _ _ e).trans rfl, (cell_of_row _ _ 6 _ _ _ e).trans rfl⟩
theorem SevenIs.moved {gp : Nat} {w w' : World} {v v' : Value} {n : Nat} {c0 c1 c2 c3 c4 c5 c6 : Value} (h : SevenIs w n c0 c1 c2 c3 c4 c5 c6) (hm : PMv gp w w' v v') (hn : n ≠ gp ∧ v.ownBlock ≠ some n) : SevenIs w' n c0 c1 c2 c3 c4 c5 c6 := by
  obtain ⟨h0, h1, h2, h3, h4, h5, h6⟩ := h
  exact ⟨hm.cell h0 hn.1 hn.2, hm.cell h1 hn.1 hn.2, hm.cell h2 hn.1 hn.2, hm.cell h3 hn.1 hn.2, hm.cell h4 hn.1 hn.2, hm.cell h5 hn.1 hn.2, hm.cell h6 hn.1 hn.2⟩
theorem SixIs.moved {gp : Nat} {w w' : World} {v v' : Value} {n : Nat} {c0 c1 c2 c3 c4 c5 : Value} (h : SixIs w n c0 c1 c2 c3 c4 c5) (hm : PMv gp w w' v v') (hn : n ≠ gp ∧ v.ownBlock ≠ some n) : SixIs w' n c0 c1 c2 c3 c4 c5 := by
  obtain ⟨h0, h1, h2, h3, h4, h5⟩ := h
  exact ⟨hm.cell h0 hn.1 hn.2, hm.cell h1 hn.1 hn.2, hm.cell h2 hn.1 hn.2, hm.cell h3 hn.1 hn.2, hm.cell h4 hn.1 hn.2, hm.cell h5 hn.1 hn.2⟩
end Go.Proofs.YtpklnhmhbaakhaaDoor
end
section
namespace Go.Proofs.YtpklnhmhbaakhaaDoor
open Go.RowKit
open Seal
open Bson (Val)
theorem class_q (k : Int) (w : World) : Calls Tryd.prog 65 #[.int .i64 k] w fun e w' => e = .returned (.int .i64 (Order.cls k)) ∧ w' = w := (class_any k w).mono fun _ _ ⟨h1, h2⟩ => ⟨h1, h2.symm⟩
end Go.Proofs.YtpklnhmhbaakhaaDoor
end
section
namespace Go.Proofs.YtpklnhmhbaakhaaDoor
open Go.RowKit
open Seal
open Bson (Val)
set_option maxRecDepth 100000 in
set_option maxHeartbeats 4000000 in
theorem fields_put (L h : Nat) (HB : BehDo L h) : FieldsPut L h := by
  intro Q f a n c w gp base l v hn hnb hF hQ hP hX hlen
  have HN := Lib.hid hn
  have HF := Lib.hid hF
  have HQ := Lib.hid hQ
  have HP0 := Lib.hid hP
  have HX := Lib.hid hX
  have HLEN := Lib.hid hlen
  have IH := Lib.hid HB
  clear HB hn hF hQ hX hlen
  go_enter Tryd.func68, Tryd.ntmps68
  go_wp2_with fail
  go_loopw [11] (fun i wr => ∃ (k : Nat) (u : Value), i = .int .i64 k ∧ k ≤ n ∧ Hid (Pen wr gp base (l ++ rowP (Key.fldB L) (f.take k)) u) ∧ Hid (PMv gp w wr v u) ∧ Hid (∀ j, (hj : j < f.length) → j < k → Key.fits L f[j].2)) (fun i _ => n - (intOf i).toNat)
  case atStart => exact ⟨0, v, rfl, Nat.zero_le _, by rw [List.take_zero]; show Pen w gp base (l ++ []) v; rw [List.append_nil]; exact hP, PMv.of_below v (Below.refl _ w), fun j hj h0 => absurd h0 (Nat.not_lt_zero _)⟩
  case round =>
    clear hP
    obtain ⟨k, u, rfl, hk, HP, HM, HFT⟩ := hrel
    by_cases hlt : k < n
    case neg =>
      obtain rfl : k = n := by omega
      have hroom : (l ++ rowP (Key.fldB L) (f.take k)).length + 1 ≤ 2147483648 := by
        rw [List.take_of_length_le (by rw [HN.out]; exact Nat.le_refl _)]
        have h1 := HLEN.out
        rw [rowB_P, List.length_append] at h1
        rw [List.length_append]
        simp only [List.length_cons, List.length_nil] at h1
        omega
      obtain ⟨v', w', hr, c1, c2, p1, p2⟩ := HP.out.byte (Below.refl _ wr) 0 (by decide) (by omega)
      have c0 := HP.out.c0
      have HE := Lib.hid (And.intro p1 (HM.out.trans p2))
      obtain ⟨b0, b1, hv⟩ := HP.out.shape
      obtain ⟨b2, b3, hv2⟩ := p1.shape
      have c9 : (wr.alloc (.cells #[.int .u8 0] 5)).cell? ⟨gp, 0, none⟩ = some u := cell_keep ((Below.refl _ wr).alloc (Nat.le_refl _) _) c0
      generalize (l ++ rowP (Key.fldB L) (f.take k)).length = m at *
      generalize (l ++ rowP (Key.fldB L) (f.take k) ++ [0]).length = m2 at *
      subst hv
      subst hv2
      have hrd := hr 23
      clear p1 p2 hr
      go_wp2_with (at_builtin; refine wpList_run_append rfl (.tmp 35) (.tmp 36) 23 23 rfl _ _ _ w' rfl rfl hrd ?_)
      go_ret
      refine ⟨true, _, _, rfl, HE.out.1, HE.out.2, fun _ => ⟨?_, fun p hp => ?_⟩, nofun⟩
      · rw [rowB_P, List.append_assoc, List.take_of_length_le (by rw [HN.out]; exact Nat.le_refl _)]
      · obtain ⟨j, hj, rfl⟩ := List.getElem_of_mem hp
        exact HFT.out j hj (by rw [← HN.out]; exact hj)
    have hkf : k < f.length := by rw [HN.out]; exact hlt
    have hKB := HM.out.below HP0.out
    obtain ⟨g, o, hga, hQg, hall⟩ := HF.out.resolve_left (fun e => by rw [e] at hkf; cases hkf)
    obtain rfl := hga
    obtain ⟨hnm, hnl, v', hsix, hV⟩ := hall k hkf
    have hK := kept_base hKB HQ.out
    have hnm := hK.cell hQg hnm
    have hsix := hsix.kept hK hQg
    have hV : VIn wr Q h f[k].2 v' := VIn.kept hK (fun _ z => z) hV
    obtain ⟨q1, q2, q3, a1, a2, a3, n1, c1, n2, c2, n3, c3, rfl⟩ := hV.shape
    obtain ⟨s0, s1, s2, s3, s4, s5⟩ := hsix.cells
    have hkind : q1 = f[k].2.kind := hV.kind_eq
    have HROOM := Lib.hid (rowP_room (Key.fldB L) f k hkf)
    have hsn := rowP_snoc (Key.fldB L) f k hkf
    obtain ⟨nm, hnme⟩ : ∃ nm, nm = f[k].1 := ⟨_, rfl⟩
    obtain ⟨y, hye⟩ : ∃ y, y = f[k].2 := ⟨_, rfl⟩
    have hfe : Key.fldB L f[k] = Key.markB q1 :: (Key.textB (Order.bytes nm) ++ Key.beh L y) := by
      unfold Key.fldB; rw [hnme, hye, hkind]
    rw [← hnme] at hnm hnl
    rw [← hye] at hV
    have HYE := Lib.hid hye
    have HV := Lib.hid hV
    rw [hfe] at hsn
    have HSN := Lib.hid hsn
    have HR2 : Hid ((rowP (Key.fldB L) (f.take k)).length + ((Key.textB (Order.bytes nm)).length + (Key.beh L y).length + 1) + 1 ≤ (Key.rowB (Key.fldB L) f).length) := by
      have := HROOM.out
      rw [hfe, List.length_cons, List.length_append] at this
      exact this
    have HXr := Lib.hid (HX.out.keep hKB)
    have HK := Lib.hid hkf
    clear hall hsix hV hkind HROOM hsn hfe hnme hye hnl hK hKB
    obtain ⟨l1, hl1⟩ : ∃ z, z = l ++ rowP (Key.fldB L) (f.take k) := ⟨_, rfl⟩
    have HL1 := Lib.hid hl1
    rw [← hl1] at HP
    have hlen1 : l1.length + ((Key.textB (Order.bytes nm)).length + (Key.beh L y).length + 1) + 1 ≤ 2147483648 := by
      rw [hl1, List.length_append]
      have h1 := HR2.out
      have h2 := HLEN.out
      omega
    have hb0 : Below wr.heap.size wr (wr.alloc (.cells #[.string nm, .int .i64 q1, .int .i64 q2, .string q3, .slice a1 n1 c1, .slice a2 n2 c2, .slice a3 n3 c3] 32)) := (Below.refl _ wr).alloc (Nat.le_refl _) _
    have HPB : Hid (Pen (wr.alloc (.cells #[.string nm, .int .i64 q1, .int .i64 q2, .string q3, .slice a1 n1 c1, .slice a2 n2 c2, .slice a3 n3 c3] 32)) gp base l1 u) := HP.out.keep hb0
    have HBB : Hid (Below base wr (wr.alloc (.cells #[.string nm, .int .i64 q1, .int .i64 q2, .string q3, .slice a1 n1 c1, .slice a2 n2 c2, .slice a3 n3 c3] 32))) := hb0.mono HP.out.size
    have HBX : Hid (SevenIs (wr.alloc (.cells #[.string nm, .int .i64 q1, .int .i64 q2, .string q3, .slice a1 n1 c1, .slice a2 n2 c2, .slice a3 n3 c3] 32)) wr.heap.size (.string nm) (.int .i64 q1) (.int .i64 q2) (.string q3) (.slice a1 n1 c1) (.slice a2 n2 c2) (.slice a3 n3 c3)) := SevenIs.new wr _ _ _ _ _ _ _ _
    have HNE := Lib.hid HP.out.box
    have HBZ := Lib.hid hb0
    have HC1 := Lib.hid (mark_any (wr.alloc (.cells #[.string nm, .int .i64 q1, .int .i64 q2, .string q3, .slice a1 n1 c1, .slice a2 n2 c2, .slice a3 n3 c3] 32)) gp base l1 u q1 HPB.out (by omega))
    have hsub : IntKind.i64.wrap ((k : Int) + 1) = (k : Int) + 1 := IntWalk.i64_in _ (by have := HK.out; rw [HN.out] at this; omega)
    clear hb0 hl1
    go_wp2_with fail
    generalize (wr.alloc (.cells #[.string nm, .int .i64 q1, .int .i64 q2, .string q3, .slice a1 n1 c1, .slice a2 n2 c2, .slice a3 n3 c3] 32)) = W0 at *
    refine HC1.out.mono ?_
    rintro e w1 ⟨rfl, v1, p1, p2⟩
    have HP1 := Lib.hid p1
    have HM1 := Lib.hid p2
    have hb1 := HBX.out.moved HM1.out HNE.out
    obtain ⟨b0, b1, b2, b3, b4, b5, b6⟩ := hb1
    have HX1 := Lib.hid (HXr.out.keep (HBB.out.trans (HM1.out.below HPB.out)))
    have HC2 := Lib.hid (text_put w1 gp base _ v1 nm HP1.out (by rw [List.length_append, List.length_singleton]; omega) HX1.out.2)
    clear p1 p2 HC1
    go_wp2_with fail
    go_at_call 67
    refine HC2.out.mono ?_
    rintro e w2 ⟨rfl, v2, p1, p2⟩
    have HP2 := Lib.hid p1
    have HM2 := Lib.hid (HM1.out.trans p2)
    have hb2 := HBX.out.moved HM2.out HNE.out
    obtain ⟨d0, d1, d2, d3, d4, d5, d6⟩ := hb2
    have HB2 : Hid (Below base wr w2) := HBB.out.trans (HM2.out.below HPB.out)
    have HX2 := Lib.hid (HXr.out.keep HB2.out)
    have HC3 := Lib.hid (IH.out Q y _ w2 gp base _ v2 (VIn.kept (kept_base HB2.out HQ.out) (fun _ z => z) HV.out) HQ.out HP2.out HX2.out (by rw [List.length_append, List.length_append, List.length_singleton]; omega))
    clear p1 p2 HC2 b0 b1 b2 b3 b4 b5 b6 HX1
    go_wp2_with fail
    go_at_call 56
    refine HC3.out.mono ?_
    rintro e w3 ⟨ok, v3, l3, rfl, p3, m3, ht, hf⟩
    have HP3 := Lib.hid p3
    have HM3 : Hid (PMv gp w w3 v v3) := HM.out.trans ((PMv.of_below u HBZ.out).trans (HM2.out.trans m3))
    have HT := Lib.hid ht
    have HFF := Lib.hid hf
    clear p3 m3 ht hf HC3 d0 d1 d2 d3 d4 d5 d6
    cases ok
    · go_wp2_with fail
      go_ret
      exact ⟨false, v3, l3, rfl, HP3.out, HM3.out, nofun, fun _ hall => HFF.out (by trivial) (by rw [HYE.out]; exact hall _ (List.getElem_mem _))⟩
    · obtain ⟨hl3, hfy⟩ := HT.out rfl
      have HL3 := Lib.hid hl3
      have HFY := Lib.hid hfy
      clear hl3 hfy
      go_wp2_with fail
      go_roundw
      case rel =>
        refine ⟨k + 1, v3, by go_num, by have := HK.out; rw [HN.out] at this; omega, ?_, HM3.out, fun j hj hjk => ?_⟩
        · have := HP3.out
          rw [HL3.out, HL1.out, List.append_assoc, List.append_assoc, List.append_assoc] at this
          rw [HSN.out]
          exact this
        · by_cases e : j = k
          · subst e
            rw [← HYE.out]; exact HFY.out
          · exact HFT.out j hj (by omega)
      case measure => simp [intOf]; have := HK.out; rw [HN.out] at this; omega
end Go.Proofs.YtpklnhmhbaakhaaDoor
end
section
namespace Go.Proofs.YtpklnhmhbaakhaaDoor
open Go.RowKit
open Seal
open Bson (Val)
set_option maxRecDepth 100000 in
set_option maxHeartbeats 4000000 in
theorem items_put (L h : Nat) (HB : ValDo L h) : ItemsPut L h := by
  intro Q f a n c w gp base l v hn hnb hF hQ hP hX hlen
  have HN := Lib.hid hn
  have HF := Lib.hid hF
  have HQ := Lib.hid hQ
  have HP0 := Lib.hid hP
  have HX := Lib.hid hX
  have HLEN := Lib.hid hlen
  have IH := Lib.hid HB
  clear HB hn hF hQ hX hlen
  go_enter Tryd.func69, Tryd.ntmps69
  go_wp2_with fail
  go_loopw [11] (fun i wr => ∃ (k : Nat) (u : Value), i = .int .i64 k ∧ k ≤ n ∧ Hid (Pen wr gp base (l ++ rowP (Key.valB L) (f.take k)) u) ∧ Hid (PMv gp w wr v u) ∧ Hid (∀ j, (hj : j < f.length) → j < k → Key.fits L f[j])) (fun i _ => n - (intOf i).toNat)
  case atStart => exact ⟨0, v, rfl, Nat.zero_le _, by rw [List.take_zero]; show Pen w gp base (l ++ []) v; rw [List.append_nil]; exact hP, PMv.of_below v (Below.refl _ w), fun j hj h0 => absurd h0 (Nat.not_lt_zero _)⟩
  case round =>
    clear hP
    obtain ⟨k, u, rfl, hk, HP, HM, HFT⟩ := hrel
    by_cases hlt : k < n
    case neg =>
      obtain rfl : k = n := by omega
      have hroom : (l ++ rowP (Key.valB L) (f.take k)).length + 1 ≤ 2147483648 := by
        rw [List.take_of_length_le (by rw [HN.out]; exact Nat.le_refl _)]
        have h1 := HLEN.out
        rw [rowB_P, List.length_append] at h1
        rw [List.length_append]
        simp only [List.length_cons, List.length_nil] at h1
        omega
      obtain ⟨v', w', hr, c1, c2, p1, p2⟩ := HP.out.byte (Below.refl _ wr) 0 (by decide) (by omega)
      have c0 := HP.out.c0
      have HE := Lib.hid (And.intro p1 (HM.out.trans p2))
      obtain ⟨b0, b1, hv⟩ := HP.out.shape
      obtain ⟨b2, b3, hv2⟩ := p1.shape
      have c9 : (wr.alloc (.cells #[.int .u8 0] 5)).cell? ⟨gp, 0, none⟩ = some u := cell_keep ((Below.refl _ wr).alloc (Nat.le_refl _) _) c0
      generalize (l ++ rowP (Key.valB L) (f.take k)).length = m at *
      generalize (l ++ rowP (Key.valB L) (f.take k) ++ [0]).length = m2 at *
      subst hv
      subst hv2
      have hrd := hr 23
      clear p1 p2 hr
      go_wp2_with (at_builtin; refine wpList_run_append rfl (.tmp 25) (.tmp 26) 23 23 rfl _ _ _ w' rfl rfl hrd ?_)
      go_ret
      refine ⟨true, _, _, rfl, HE.out.1, HE.out.2, fun _ => ⟨?_, fun p hp => ?_⟩, nofun⟩
      · rw [rowB_P, List.append_assoc, List.take_of_length_le (by rw [HN.out]; exact Nat.le_refl _)]
      · obtain ⟨j, hj, rfl⟩ := List.getElem_of_mem hp
        exact HFT.out j hj (by rw [← HN.out]; exact hj)
    have hkf : k < f.length := by rw [HN.out]; exact hlt
    have hKB := HM.out.below HP0.out
    obtain ⟨g, o, hga, hQg, hall⟩ := HF.out.resolve_left (fun e => by rw [e] at hkf; cases hkf)
    obtain rfl := hga
    obtain ⟨v', hsix, hV⟩ := hall k hkf
    have hK := kept_base hKB HQ.out
    have hsix := hsix.kept hK hQg
    have hV : VIn wr Q h f[k] v' := VIn.kept hK (fun _ z => z) hV
    obtain ⟨q1, q2, q3, a1, a2, a3, n1, c1, n2, c2, n3, c3, rfl⟩ := hV.shape
    obtain ⟨s0, s1, s2, s3, s4, s5⟩ := hsix.cells
    have HROOM := Lib.hid (rowP_room (Key.valB L) f k hkf)
    have hsn := rowP_snoc (Key.valB L) f k hkf
    obtain ⟨y, hye⟩ : ∃ y, y = f[k] := ⟨_, rfl⟩
    rw [← hye] at hV hsn
    have HYE := Lib.hid hye
    have HV := Lib.hid hV
    have HSN := Lib.hid hsn
    have HR2 : Hid ((rowP (Key.valB L) (f.take k)).length + (Key.valB L y).length + 1 ≤ (Key.rowB (Key.valB L) f).length) := by
      rw [HYE.out]; exact HROOM.out
    have HXr := Lib.hid (HX.out.keep hKB)
    have HK := Lib.hid hkf
    clear hall hsix hV HROOM hsn hye hK hKB
    obtain ⟨l1, hl1⟩ : ∃ z, z = l ++ rowP (Key.valB L) (f.take k) := ⟨_, rfl⟩
    have HL1 := Lib.hid hl1
    rw [← hl1] at HP
    have hlen1 : l1.length + (Key.valB L y).length + 1 ≤ 2147483648 := by
      rw [hl1, List.length_append]
      have h1 := HR2.out
      have h2 := HLEN.out
      omega
    have hb0 : Below wr.heap.size wr (wr.alloc (.cells #[.int .i64 q1, .int .i64 q2, .string q3, .slice a1 n1 c1, .slice a2 n2 c2, .slice a3 n3 c3] 27)) := (Below.refl _ wr).alloc (Nat.le_refl _) _
    have HPB : Hid (Pen (wr.alloc (.cells #[.int .i64 q1, .int .i64 q2, .string q3, .slice a1 n1 c1, .slice a2 n2 c2, .slice a3 n3 c3] 27)) gp base l1 u) := HP.out.keep hb0
    have HBB := hb0.mono HP.out.size
    have HBZ := Lib.hid hb0
    have hsub : IntKind.i64.wrap ((k : Int) + 1) = (k : Int) + 1 := IntWalk.i64_in _ (by have := HK.out; rw [HN.out] at this; omega)
    have HC1 := Lib.hid (IH.out Q y _ (wr.alloc (.cells #[.int .i64 q1, .int .i64 q2, .string q3, .slice a1 n1 c1, .slice a2 n2 c2, .slice a3 n3 c3] 27)) gp base l1 u (VIn.keep hb0 HV.out) HQ.out HPB.out (HXr.out.keep HBB) (by omega))
    clear hb0 hl1 HBB
    go_wp2_with fail
    generalize (wr.alloc (.cells #[.int .i64 q1, .int .i64 q2, .string q3, .slice a1 n1 c1, .slice a2 n2 c2, .slice a3 n3 c3] 27)) = W0 at *
    refine HC1.out.mono ?_
    rintro e w3 ⟨ok, v3, l3, rfl, p3, m3, ht, hf⟩
    have HP3 := Lib.hid p3
    have HM3 : Hid (PMv gp w w3 v v3) := HM.out.trans ((PMv.of_below u HBZ.out).trans m3)
    have HT := Lib.hid ht
    have HFF := Lib.hid hf
    clear p3 m3 ht hf HC1
    cases ok
    · go_wp2_with fail
      go_ret
      exact ⟨false, v3, l3, rfl, HP3.out, HM3.out, nofun, fun _ hall => HFF.out (by trivial) (by rw [HYE.out]; exact hall _ (List.getElem_mem _))⟩
    · obtain ⟨hl3, hfy⟩ := HT.out rfl
      have HL3 := Lib.hid hl3
      have HFY := Lib.hid hfy
      clear hl3 hfy
      go_wp2_with fail
      go_roundw
      case rel =>
        refine ⟨k + 1, v3, by go_num, by have := HK.out; rw [HN.out] at this; omega, ?_, HM3.out, fun j hj hjk => ?_⟩
        · have := HP3.out
          rw [HL3.out, HL1.out, List.append_assoc] at this
          rw [HSN.out]
          exact this
        · by_cases e : j = k
          · subst e
            rw [← HYE.out]; exact HFY.out
          · exact HFT.out j hj (by omega)
      case measure => simp [intOf]; have := HK.out; rw [HN.out] at this; omega
end Go.Proofs.YtpklnhmhbaakhaaDoor
end
