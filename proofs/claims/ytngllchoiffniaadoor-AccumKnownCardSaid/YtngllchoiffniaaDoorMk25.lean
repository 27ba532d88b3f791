/- AccumAdd2. -/
import Derived.Test.YtngllchoiffniaaDoorMk24
set_option maxRecDepth 100000
set_option maxHeartbeats 20000000
section
namespace Go.Proofs.YtngllchoiffniaaDoor
open Go.RowKit
open Seal
open Bson (Val)
namespace Acc
structure PushAt (w : World) (s base H : Nat) (lv : Value) (wt : Int) (ys : List Val) (xs : List Value) : Prop where
 row : w.heap[s]? = some (.cells #[mOf 19 s, .int .i64 7, .int .i64 0, .string ⟨#[]⟩, .slice none 0 0, .slice none 0 0, lv, .int .i64 wt, .slice none 0 0] 41 (0, 0))
 acc : Acc w base lv (fun g => g ≠ s) (H + 1) ys xs
theorem PushAt.keep {w w' : World} {s base H : Nat} {lv : Value} {wt : Int} {ys : List Val} {xs : List Value} (h : PushAt w s base H lv wt ys xs) (hb : Below w.heap.size w w') : PushAt w' s base H lv wt ys xs :=
 ⟨(hb.block s (Array.getElem?_eq_some_iff.1 h.row).1).trans h.row, h.acc.keep hb⟩
def PushMore (w : World) (s base H : Nat) (lv : Value) (wt : Int) (ys : List Val) (y : Val) (w' : World) : Prop := ∃ lv' xs', PushAt w' s base H lv' wt (ys ++ [y]) xs' ∧ RM (fun g => g = s ∨ lv.ownBlock = some g) w w' ∧ (lv'.ownBlock = lv.ownBlock ∨ ∃ g, lv'.ownBlock = some g ∧ w.heap.size ≤ g)
def AddPushPost (w : World) (s base H : Nat) (lv : Value) (wt : Int) (ys : List Val) (y : Val) (gv : Int) (e : Ending) (w' : World) : Prop :=
 if y.kind = 0 then e = .returned (.int .i64 0) ∧ Below w.heap.size w w'
 else if gv = 0 ∨ 65536 < 7 + wt + gv then e = .returned (.int .i64 3) ∧ Below w.heap.size w w'
 else e = .returned (.int .i64 0) ∧ PushMore w s base H lv (wt + gv) ys y w'
theorem add_push (B s base H : Nat) (lv : Value) (wt : Int) (ys : List Val) (xs : List Value) (y : Val) (v : Value) (Qy : Nat → Prop) (w : World) (hB : B ≤ s) (hsb : s < base) (hbase : base ≤ w.heap.size) (hS : PushAt w s base H lv wt ys xs) (hv : VIn w Qy (H + 1) y v) (hT : TabsAt B w) (hlen : ys.length ≤ 60000) (hw0 : 0 ≤ wt) (hw1 : wt ≤ 70000) :
  Calls Tryd.prog 7 #[.pointer (some ⟨s, 0, none⟩), v] w (AddPushPost w s base H lv wt ys y (growV y ys.length)) := by
 have hacc : Acc w base lv (fun g => g ≠ s ∧ True) (H + 1) ys xs := ⟨hS.acc.own, fun i hi => by
  obtain ⟨c0, c1, c2, c3, c4, c5, h0, h1, h2, h3, h4, h5, hv⟩ := hS.acc.at' i hi
  exact ⟨c0, c1, c2, c3, c4, c5, h0, h1, h2, h3, h4, h5, hv.kept (Kept.of_below (Below.refl _ _)) (fun g hg => ⟨⟨hg.1, trivial⟩, hg.2⟩)⟩⟩
 have hlt : s < w.heap.size := (Array.getElem?_eq_some_iff.1 hS.row).1
 refine (aadd_any 19 s (enters_of Tryd.func19 (by kernel_rfl) rfl) (fun r W w' => PushPost W (fun _ => True) s base H ys lv (mOf 19 s) (.slice none 0 0) wt y (.returned (.int .i64 r)) w') _ (.slice none 0 0) wt Qy H y v w ⟨_, _, _, _, _, _, rfl, hS.row⟩ hv (fun W hb => ?_)).mono ?_
 ·refine (push_any B s base H ys xs lv _ (.slice none 0 0) wt y v Qy (fun _ => True) W hB hsb (Nat.le_trans hbase hb.size) ((hb.block s hlt).trans hS.row) (hacc.keep hb) (fun _ _ => trivial) (VIn.keep hb hv) (hT.mono (hb.mono hT.1)) hlen hw0 hw1).mono ?_
  intro e w' h
  have h0 := h
  unfold PushPost at h
  split at h
  ·exact ⟨0, h.1, by rw [← h.1]; exact h0⟩
  ·split at h
   ·exact ⟨3, h.1, by rw [← h.1]; exact h0⟩
   ·exact ⟨0, h.1, by rw [← h.1]; exact h0⟩
 ·rintro e w' ⟨r, W, rfl, hb, h⟩
  unfold PushPost at h
  unfold AddPushPost
  split
  ·next hk => rw [if_pos hk] at h; exact ⟨h.1, hb.trans (h.2.mono hb.size)⟩
  ·next hk =>
   rw [if_neg hk] at h
   split
   ·next hg => rw [if_pos hg] at h; exact ⟨h.1, hb.trans (h.2.mono hb.size)⟩
   ·next hg =>
    rw [if_neg hg] at h
    obtain ⟨h1, lv', xs', h2, h3, h4, h5⟩ := h
    refine ⟨h1, lv', xs', ⟨h2, h3.own, fun i hi => ?_⟩, (RM.of_below hb).trans h4 (fun _ _ z => z), ?_⟩
    ·obtain ⟨c0, c1, c2, c3, c4, c5, k0, k1, k2, k3, k4, k5, hv⟩ := h3.at' i hi
     exact ⟨c0, c1, c2, c3, c4, c5, k0, k1, k2, k3, k4, k5, hv.kept (Kept.of_below (Below.refl _ _)) (fun g hg => ⟨hg.1.1, hg.2⟩)⟩
    ·rcases h5 with e | ⟨g, e, hg⟩
     ·exact .inl e
     ·exact .inr ⟨g, e, Nat.le_trans hb.size hg⟩
def AddSetPost (w : World) (s base H : Nat) (lv rv : Value) (wt : Int) (ys : List Val) (rs : List Nat) (y : Val) (fb : Bool) (at_ : Nat) (gv : Int) (e : Ending) (w' : World) : Prop := SetPost w s base H (mOf 21 s) lv rv wt ys rs y fb at_ gv e w'
theorem SetMore.of {w w1 w' : World} {s base H : Nat} {m lv rv : Value} {wt : Int} {ys : List Val} {rs : List Nat} {at_ : Nat} {y : Val} (hb : Below w.heap.size w w1) (h : SetMore w1 s base H m lv rv wt ys rs at_ y w') : SetMore w s base H m lv rv wt ys rs at_ y w' := by
 obtain ⟨lv', rv', xs', h1, h2, h3, h4⟩ := h
 refine ⟨lv', rv', xs', h1, (RM.of_below hb).trans h2 (fun _ _ z => z), ?_, ?_⟩
 ·rcases h3 with e | ⟨g, e, hg⟩
  ·exact .inl e
  ·exact .inr ⟨g, e, Nat.le_trans hb.size hg⟩
 ·rcases h4 with e | ⟨g, e, hg⟩
  ·exact .inl e
  ·exact .inr ⟨g, e, Nat.le_trans hb.size hg⟩
theorem add_set (B s base H : Nat) (lv rv : Value) (wt : Int) (ys : List Val) (xs : List Value) (rs : List Nat) (y : Val) (v : Value) (Qy : Nat → Prop) (w : World) (hB : B ≤ s) (hsb : s < base) (hbase : base ≤ w.heap.size) (hS : SetAt w s base H (mOf 21 s) lv rv wt ys xs rs) (hv : VIn w Qy (H + 1) y v) (hT : TabsAt B w) (hlen : ys.length ≤ 60000) (hw0 : 0 ≤ wt) (hw1 : wt ≤ 70000)
  (hrs : ∀ x ∈ rs, x < ys.length) (hmono : ∀ a b, a ≤ b → b < ys.length → cF H ys rs y b < 0 → cF H ys rs y a < 0) :
  Calls Tryd.prog 7 #[.pointer (some ⟨s, 0, none⟩), v] w (AddSetPost w s base H lv rv wt ys rs y (foundB H ys rs y ys.length) (bpos (cF H ys rs y) ys.length) (growV y ys.length)) := by
 refine (aadd_any 21 s (enters_of Tryd.func21 (by kernel_rfl) rfl) (fun r W w' => SetPost W s base H (mOf 21 s) lv rv wt ys rs y (foundB H ys rs y ys.length) (bpos (cF H ys rs y) ys.length) (growV y ys.length) (.returned (.int .i64 r)) w') _ rv wt Qy H y v w ⟨_, _, _, _, _, _, rfl, hS.row⟩ hv (fun W hb => ?_)).mono ?_
 ·refine (set_any B s base H ys xs rs lv _ rv wt y v Qy W hB hsb (Nat.le_trans hbase hb.size) (hS.keep hb) (VIn.keep hb hv) (hT.mono (hb.mono hT.1)) hlen hw0 hw1 hrs hmono).mono ?_
  intro e w' h
  have h0 := h
  unfold SetPost at h
  split at h
  ·exact ⟨0, h.1, by rw [← h.1]; exact h0⟩
  ·split at h
   ·exact ⟨3, h.1, by rw [← h.1]; exact h0⟩
   ·exact ⟨0, h.1, by rw [← h.1]; exact h0⟩
 ·rintro e w' ⟨r, W, rfl, hb, h⟩
  unfold SetPost at h
  unfold AddSetPost SetPost
  split
  ·next hk => rw [if_pos hk] at h; exact ⟨h.1, hb.trans (h.2.mono hb.size)⟩
  ·next hk =>
   rw [if_neg hk] at h
   split
   ·next hg => rw [if_pos hg] at h; exact ⟨h.1, hb.trans (h.2.mono hb.size)⟩
   ·next hg =>
    rw [if_neg hg] at h
    exact ⟨h.1, SetMore.of hb h.2⟩
theorem kept_lst {w : World} {base s H : Nat} {lv : Value} {QA : Nat → Prop} {ys : List Val} {xs : List Value} (hA : Acc w base lv QA (H + 1) ys xs) (hl : ys.length ≤ 60000) : VIn w (fun _ => True) (H + 2) (lst ys) (.agg #[.int .i64 7, .int .i64 0, .string ⟨#[]⟩, .slice none 0 0, .slice none 0 0, lv]) := by
 obtain ⟨a, c, rfl, hc, hI⟩ := hA.items (Q' := fun _ => True) (fun _ _ => trivial) (fun _ _ _ => trivial)
 exact ⟨none, none, a, 0, 0, c, rfl, plain_lim 7 0 [] ys (by omega) (by omega) (by simp) (by omega), ⟨Nat.le_refl _, by omega⟩, ⟨Nat.le_refl _, by omega⟩, hc, .inl rfl, .inl rfl, hI⟩
theorem value_lst (s base H : Nat) (F : Fn) (r c : Array Value) (lv rv : Value) (wt : Int) (QA : Nat → Prop) (ys : List Val) (xs : List Value) (w : World) (hrow : w.heap[s]? = some (.cells #[.func F r c, .int .i64 7, .int .i64 0, .string ⟨#[]⟩, .slice none 0 0, .slice none 0 0, lv, .int .i64 wt, rv] 41 (0, 0))) (hA : Acc w base lv QA (H + 1) ys xs) (hl : ys.length ≤ 60000) :
  Calls Tryd.prog 8 #[.pointer (some ⟨s, 0, none⟩)] w fun e w' => ∃ v', e = .returned v' ∧ VIn w' (fun g => w.heap.size ≤ g) (H + 2) (lst ys) v' ∧ Below w.heap.size w w' :=
 avalue_any s F r c _ rv wt (fun _ => True) (H + 1) (lst ys) w ⟨_, _, _, _, _, _, rfl, hrow⟩ (kept_lst (s := s) hA hl)
end Acc
end Go.Proofs.YtngllchoiffniaaDoor
end
