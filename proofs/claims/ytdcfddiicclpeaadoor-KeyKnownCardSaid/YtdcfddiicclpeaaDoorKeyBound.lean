/- How long keys are: no more than some times what the values weigh; nests (no walk). -/
import Derived.Test.YtdcfddiicclpeaaDoorKeyMath
import Derived.Test.YtdcfddiicclpeaaDoorPathBound
namespace Go.Proofs.YtdcfddiicclpeaaDoor
open Bson (Val)
theorem esc_len : ∀ l : List Nat, (Key.esc l).length ≤ 2 * l.length
  | [] => Nat.le_refl _
  | x :: r => by
    have := esc_len r
    rw [Key.esc_cons]
    split <;> (simp only [List.length_cons]; omega)
theorem text_len (l : List Nat) : (Key.textB l).length ≤ 2 * l.length + 2 := by
  have := esc_len l
  unfold Key.textB
  rw [List.length_append]
  simp only [List.length_cons, List.length_nil]
  omega
theorem bytes_size' (s : ByteArray) : (Order.bytes s).length = s.size := by simp [Order.bytes]
theorem rowB_len {α : Type} (e : α → List Nat) : ∀ l : List α, (Key.rowB e l).length = (l.map (fun a => (e a).length)).sum + 1
  | [] => rfl
  | a :: r => by rw [Key.rowB, List.length_append, rowB_len e r, List.map_cons, List.sum_cons]; omega
theorem beh_le : ∀ (L h : Nat) (x : Val), Hgt h x → (Key.beh L x).length + 3 ≤ 11 * wt h x
  | L, 0, x, hx => hx.elim
  | L, h + 1, x, hx => by
    have hw : wt (h + 1) x = 1 + x.s.size + x.b.length + (x.f.map fun p => p.1.size + wt h p.2).sum + (x.l.map (wt h)).sum := rfl
    by_cases k1 : x.kind = 3 ∨ x.kind = 4 ∨ x.kind = 10 ∨ x.kind = 11
    · rw [Key.beh_num k1, Key.numB, Key.be_length]; omega
    by_cases k2 : x.kind = 5
    · have := text_len (Order.bytes x.s)
      rw [bytes_size'] at this
      rw [Key.beh_text k2]; omega
    by_cases k3 : x.kind = 8
    · rw [Key.beh_blob k3, Key.blobB, List.length_append, Key.be_length]; omega
    by_cases k4 : x.kind = 9
    · have := text_len x.b
      rw [Key.beh_id k4]; omega
    by_cases k5 : x.kind = 6
    · cases L with
      | zero =>
        rw [Key.beh, if_neg k1, if_neg k2, if_neg k3, if_neg k4]
        simp only [List.length_nil]; omega
      | succ L =>
        rw [Key.beh_doc k5, rowB_len]
        have := sum_le (fun p : ByteArray × Val => (Key.fldB L p).length) (fun p => 11 * (p.1.size + wt h p.2)) x.f (fun p hp => by
          have h1 := beh_le L h p.2 (hx.1 p hp)
          have h2 := text_len (Order.bytes p.1)
          rw [bytes_size'] at h2
          show (Key.markB p.2.kind :: (Key.textB (Order.bytes p.1) ++ Key.beh L p.2)).length ≤ _
          rw [List.length_cons, List.length_append]
          omega)
        have e : (x.f.map fun p : ByteArray × Val => 11 * (p.1.size + wt h p.2)).sum = 11 * (x.f.map fun p => p.1.size + wt h p.2).sum := by
          generalize x.f = f
          induction f with
          | nil => rfl
          | cons a r ih => rw [List.map_cons, List.sum_cons, List.map_cons, List.sum_cons, ih]; omega
        omega
    by_cases k6 : x.kind = 7
    · cases L with
      | zero =>
        rw [Key.beh, if_neg k1, if_neg k2, if_neg k3, if_neg k4]
        simp only [List.length_nil]; omega
      | succ L =>
        rw [Key.beh_list k6, rowB_len]
        have := sum_le (fun v : Val => (Key.valB L v).length) (fun v => 11 * wt h v) x.l (fun v hv => by
          have h1 := beh_le L h v (hx.2 v hv)
          show (Key.markB v.kind :: Key.beh L v).length ≤ _
          rw [List.length_cons]
          omega)
        have e : (x.l.map fun v : Val => 11 * wt h v).sum = 11 * (x.l.map (wt h)).sum := by
          generalize x.l = f
          induction f with
          | nil => rfl
          | cons a r ih => rw [List.map_cons, List.sum_cons, List.map_cons, List.sum_cons, ih]; omega
        omega
    · rw [Key.beh_none (by have := k1; omega)]
      simp only [List.length_nil]; omega
theorem val_le (L h : Nat) (x : Val) (hx : Hgt h x) : (Key.valB L x).length ≤ 11 * wt h x := by
  have := beh_le L h x hx
  unfold Key.valB
  rw [List.length_cons]; omega
theorem enc_le (L h : Nat) (d : List Bool) : ∀ (l : List Val) (i : Nat), (∀ x ∈ l, Hgt h x) → (∀ x ∈ l, wt h x ≤ 3000) → (Key.encB L d l i).length ≤ 33000 * l.length
  | [], _, _, _ => Nat.zero_le _
  | x :: r, i, hh, hw => by
    have h1 := enc_le L h d r (i + 1) (fun y hy => hh y (by simp [hy])) (fun y hy => hw y (by simp [hy]))
    have h2 := val_le L h x (hh x (by simp))
    have h3 := hw x (by simp)
    have h4 : (Key.itemB L (d.getD i false) x).length = (Key.valB L x).length := by
      unfold Key.itemB
      split
      · exact List.length_map _
      · rfl
    rw [Key.encB, List.length_append, h4, List.length_cons]
    omega
theorem fits_up : ∀ (L : Nat) (x : Val), Key.fits L x → Key.fits (L + 1) x
  | 0, x, h => ⟨fun e => absurd e h.1, fun e => absurd e h.2⟩
  | L + 1, x, h => ⟨fun e p hp => fits_up L p.2 (h.1 e p hp), fun e v hv => fits_up L v (h.2 e v hv)⟩
theorem fits_more (L : Nat) (x : Val) (h : Key.fits L x) : ∀ n, Key.fits (L + n) x
  | 0 => h
  | n + 1 => fits_up _ _ (fits_more L x h n)
end Go.Proofs.YtdcfddiicclpeaaDoor
