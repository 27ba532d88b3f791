/- KeyPut, OrderRowsIn, OrderText, PathEachF. -/
import Derived.Deep.RegionHeld3
import Derived.IntWalk
import Derived.WalkSpells
import Derived.Test.YtpklnhmhbaakhaaDoorMk9
import Derived.Test.YtpklnhmhbaakhaaDoorMk10
set_option maxRecDepth 100000
section
namespace Go.Proofs.YtpklnhmhbaakhaaDoor
open Go.RowKit
open Seal
open Bson (Val)
theorem be_get (n : Nat) : ∀ (K k : Nat) (hk : k < (Key.be n K).length), (Key.be n K)[k] = n / 256 ^ (K - 1 - k) % 256
  | 0, k, h => by simp [Key.be] at h
  | K + 1, 0, _ => by simp [Key.be]
  | K + 1, k + 1, h => by
    have h' : k < (Key.be n K).length := by simpa [Key.be] using h
    have := be_get n K k h'
    simp only [Key.be, List.getElem_cons_succ, this]
    rw [show K + 1 - 1 - (k + 1) = K - 1 - k by omega]
theorem be_take (n k : Nat) (hk : k < 8) : (Key.be n 8).take (k + 1) = (Key.be n 8).take k ++ [n / 256 ^ (7 - k) % 256] := by
  have h : k < (Key.be n 8).length := by rw [Key.be_length]; exact hk
  rw [List.take_succ_eq_append_getElem h, be_get]
theorem shift_byte (n k : Nat) : IntKind.u8.wrap ((n : Int) / 2 ^ (8 * (7 - k))) = ((n / 256 ^ (7 - k) % 256 : Nat) : Int) := by
  have e : (2 : Int) ^ (8 * (7 - k)) = ((256 ^ (7 - k) : Nat) : Int) := by
    rw [Int.pow_mul, Int.natCast_pow]; rfl
  rw [IntKind.wrap_u8, e]
  rfl
set_option maxRecDepth 100000 in
set_option maxHeartbeats 2000000 in
theorem number_any (w : World) (gp base : Nat) (l : List Nat) (v : Value) (n : Nat) (hP : Pen w gp base l v) (hl : l.length + 8 ≤ 2147483648) :
    Calls Tryd.prog 70 #[.pointer (some ⟨gp, 0, none⟩), .int .u64 (n : Int)] w (PenPost w gp base l (Key.be n 8) v) := by
  have HP := Lib.hid hP
  clear hP
  go_enter Tryd.func70, Tryd.ntmps70
  go_wp2_with fail
  go_loopw [5] (fun i wr => ∃ (k : Nat) (u : Value), i = .int .i64 k ∧ k ≤ 8 ∧ Hid (Pen wr gp base (l ++ (Key.be n 8).take k) u ∧ PMv gp w wr v u)) (fun i _ => 8 - (intOf i).toNat)
  case atStart => exact ⟨0, v, rfl, Nat.zero_le _, by rw [List.take_zero, List.append_nil]; exact HP.out, PMv.of_below v (Below.refl _ w)⟩
  case round =>
    obtain ⟨k, u, rfl, hk, HR⟩ := hrel
    by_cases hlt : k < 8
    case neg =>
      obtain rfl : k = 8 := by omega
      go_wp2_with fail
      refine bodyPost_ret (results_none Tryd.results70 _ _ _) rfl ⟨rfl, u, ?_, HR.out.2⟩
      have := HR.out.1
      rw [List.take_of_length_le (by rw [Key.be_length]; exact Nat.le_refl _)] at this
      exact this
    have hd : Below wr.heap.size wr wr.drew := (Below.refl _ wr).drew
    have hb256 : n / 256 ^ (7 - k) % 256 < 256 := Nat.mod_lt _ (by decide)
    obtain ⟨b, hb⟩ : ∃ b, b = n / 256 ^ (7 - k) % 256 := ⟨_, rfl⟩
    have HB := Lib.hid hb
    rw [← hb] at hb256
    obtain ⟨v', w', hr, c1, c2, p1, p2⟩ := HR.out.1.byte hd b hb256 (by rw [List.length_append, List.length_take, Key.be_length]; omega)
    have c0 := HR.out.1.c0
    have HE := Lib.hid (And.intro p1 (HR.out.2.trans p2))
    obtain ⟨a, c, hv⟩ := HR.out.1.shape
    obtain ⟨a2, c3, hv2⟩ := p1.shape
    have c9 : (wr.alloc (.cells #[.int .u8 (b : Int)] 5)).cell? ⟨gp, 0, none⟩ = some u := cell_keep ((Below.refl _ wr).alloc (Nat.le_refl _) _) c0
    generalize (l ++ (Key.be n 8).take k).length = m at *
    generalize (l ++ (Key.be n 8).take k ++ [b]).length = m2 at *
    subst hv
    subst hv2
    have hrd := hr 23
    have s1 : IntKind.i64.wrap (7 - (k : Int)) = 7 - (k : Int) := IntWalk.i64_in _ (by omega)
    have s2 : IntKind.i64.wrap (8 * (7 - (k : Int))) = 8 * (7 - (k : Int)) := IntWalk.i64_in _ (by omega)
    have s3 : IntKind.i64.wrap ((k : Int) + 1) = (k : Int) + 1 := IntWalk.i64_in _ (by omega)
    have s4 : (8 * (7 - (k : Int))).toNat = 8 * (7 - k) := by omega
    have s5 : IntKind.u8.wrap ((n : Int) / 2 ^ (8 * (7 - k))) = (b : Int) := by rw [hb]; exact shift_byte n k
    clear hb p1 p2 hr hd hb256 HP
    go_wp2_with fail
    refine wp_region_held_drew (S := fun _ => True) (by kernel_rfl) trivial (fun hHeld => ?_)
    refine wpAnyH_take (i := 0) (v := ?_) rfl (by kernel_rfl) (by kernel_rfl) (by kernel_rfl) (fun _ _ _ h => h) (Or.inl ⟨by kernel_rfl, ?_⟩) (by assumption) ?_
    rotate_left
    · intro wS hSw
      go_simp
      try (with_reducible rfl)
    try simp only [List.getElem_toArray, List.getElem_cons_zero, Act.put, List.setIfInBounds_toArray, List.set_cons_zero, List.set_cons_succ]
    refine wpAnyH_take (i := 1) (v := ?_) rfl (by kernel_rfl) (by kernel_rfl) (by kernel_rfl) (fun _ _ _ h => h) (Or.inl ⟨by kernel_rfl, ?_⟩) (by assumption) ?_
    rotate_left
    · intro wS hSw
      go_simp
      try (with_reducible rfl)
    try simp only [List.getElem_toArray, List.getElem_cons_succ, List.getElem_cons_zero, Act.put, List.setIfInBounds_toArray, List.set_cons_zero, List.set_cons_succ]
    refine wpAnyH_take (i := 2) (v := ?_) rfl (by kernel_rfl) (by kernel_rfl) (by kernel_rfl) (fun _ _ _ h => h) (Or.inl ⟨by kernel_rfl, ?_⟩) (by assumption) ?_
    rotate_left
    · intro wS hSw
      go_simp
      try (with_reducible rfl)
    try simp only [List.getElem_toArray, List.getElem_cons_succ, List.getElem_cons_zero, Act.put, List.setIfInBounds_toArray, List.set_cons_zero, List.set_cons_succ]
    refine wpAnyH_take (i := 3) (v := ?_) rfl (by kernel_rfl) (by kernel_rfl) (by kernel_rfl) (fun _ _ _ h => h) (Or.inl ⟨by kernel_rfl, ?_⟩) (by assumption) ?_
    rotate_left
    · intro wS hSw
      go_simp
      try (with_reducible rfl)
    try simp only [List.getElem_toArray, List.getElem_cons_succ, List.getElem_cons_zero, Act.put, List.setIfInBounds_toArray, List.set_cons_zero, List.set_cons_succ]
    refine wpAnyH_take (i := 5) (v := ?_) rfl (by kernel_rfl) (by kernel_rfl) (by kernel_rfl) (fun _ _ _ h => h) (Or.inl ⟨by kernel_rfl, ?_⟩) (by assumption) ?_
    rotate_left
    · intro wS hSw
      go_simp
      try (with_reducible rfl)
    try simp only [List.getElem_toArray, List.getElem_cons_succ, List.getElem_cons_zero, Act.put, List.setIfInBounds_toArray, List.set_cons_zero, List.set_cons_succ]
    refine wpAnyH_take (i := 6) (v := ?_) rfl (by kernel_rfl) (by kernel_rfl) (by kernel_rfl) (fun _ _ _ h => h) (Or.inl ⟨by kernel_rfl, ?_⟩) (by assumption) ?_
    rotate_left
    · intro wS hSw
      go_simp
      try (with_reducible rfl)
    try simp only [List.getElem_toArray, List.getElem_cons_succ, List.getElem_cons_zero, Act.put, List.setIfInBounds_toArray, List.set_cons_zero, List.set_cons_succ]
    refine wpAnyH_take (i := 7) (v := ?_) rfl (by kernel_rfl) (by kernel_rfl) (by kernel_rfl) (fun _ _ _ h => h) (Or.inl ⟨by kernel_rfl, ?_⟩) (by assumption) ?_
    rotate_left
    · intro wS hSw
      go_simp
      try (with_reducible rfl)
    try simp only [List.getElem_toArray, List.getElem_cons_succ, List.getElem_cons_zero, Act.put, List.setIfInBounds_toArray, List.set_cons_zero, List.set_cons_succ]
    refine wpAnyH_take (i := 8) (v := ?_) rfl (by kernel_rfl) (by kernel_rfl) (by kernel_rfl) (fun _ _ _ h => h) (Or.inl ⟨by kernel_rfl, ?_⟩) (by assumption) ?_
    rotate_left
    · intro wS hSw
      go_simp
      try (with_reducible rfl)
    try simp only [List.getElem_toArray, List.getElem_cons_succ, List.getElem_cons_zero, Act.put, List.setIfInBounds_toArray, List.set_cons_zero, List.set_cons_succ]
    refine wpAnyH_take (i := 9) (v := ?_) rfl (by kernel_rfl) (by kernel_rfl) (by kernel_rfl) (fun _ _ _ h => h) (Or.inl ⟨by kernel_rfl, ?_⟩) (by assumption) ?_
    rotate_left
    · intro wS hSw
      go_simp
      try (with_reducible rfl)
    try simp only [List.getElem_toArray, List.getElem_cons_succ, List.getElem_cons_zero, Act.put, List.setIfInBounds_toArray, List.set_cons_zero, List.set_cons_succ]
    refine wpAnyH_take (i := 10) (v := ?_) rfl (by kernel_rfl) (by kernel_rfl) (by kernel_rfl) (fun _ _ _ h => h) (Or.inl ⟨by kernel_rfl, ?_⟩) (by assumption) ?_
    rotate_left
    · intro wS hSw
      go_simp
      try (with_reducible rfl)
    try simp only [List.getElem_toArray, List.getElem_cons_succ, List.getElem_cons_zero, Act.put, List.setIfInBounds_toArray, List.set_cons_zero, List.set_cons_succ]
    refine wpAnyH_ready (rs := [4, 11]) (by kernel_rfl) (by simp) ?_
    refine AllReadyH.cons rfl (fun K hK => ?_) (AllReadyH.cons rfl (fun K hK => ?_) AllReadyH.nil)
    · go_simp
      refine hK.out _ _ trivial (fun hHeld => ?_)
      clear hK K
      try simp only [List.getElem_toArray, List.getElem_cons_succ, List.getElem_cons_zero, Act.put, List.setIfInBounds_toArray, List.set_cons_zero, List.set_cons_succ]
      refine wpAnyH_ready (rs := [11]) (by kernel_rfl) (by simp) ?_
      refine AllReadyH.cons rfl (fun K hK => ?_) AllReadyH.nil
      go_simp
      refine hK.out _ _ trivial (fun hHeld => ?_)
      clear hK K
      try simp only [List.getElem_toArray, List.getElem_cons_succ, List.getElem_cons_zero, Act.put, List.setIfInBounds_toArray, List.set_cons_zero, List.set_cons_succ]
      refine wpAnyH_ready (rs := [12]) (by kernel_rfl) (by simp) ?_
      refine AllReadyH.cons rfl (fun K hK => ?_) AllReadyH.nil
      refine step_run_append rfl (.tmp 12) (.tmp 19) 23 23 rfl _ _ _ w' rfl rfl hrd ?_
      refine hK.out _ _ trivial (fun hHeld => ?_)
      clear hK K
      try simp only [List.getElem_toArray, List.getElem_cons_succ, List.getElem_cons_zero, Act.put, List.setIfInBounds_toArray, List.set_cons_zero, List.set_cons_succ]
      refine wpAnyH_take (i := 13) (v := ?_) rfl (by kernel_rfl) (by kernel_rfl) (by kernel_rfl) (fun _ _ _ h => h) (Or.inl ⟨by kernel_rfl, ?_⟩) (by assumption) ?_
      rotate_left
      · intro wS hSw
        go_simp
        try (with_reducible rfl)
      try simp only [List.getElem_toArray, List.getElem_cons_succ, List.getElem_cons_zero, Act.put, List.setIfInBounds_toArray, List.set_cons_zero, List.set_cons_succ]
      refine wpAnyH_take (i := 14) (v := ?_) rfl (by kernel_rfl) (by kernel_rfl) (by kernel_rfl) (fun _ _ _ h => h) (Or.inl ⟨by kernel_rfl, ?_⟩) (by assumption) ?_
      rotate_left
      · intro wS hSw
        go_simp
        try (with_reducible rfl)
      try simp only [List.getElem_toArray, List.getElem_cons_succ, List.getElem_cons_zero, Act.put, List.setIfInBounds_toArray, List.set_cons_zero, List.set_cons_succ]
      refine wpAnyH_ready (rs := [15]) (by kernel_rfl) (by simp) ?_
      refine AllReadyH.cons rfl (fun K hK => ?_) AllReadyH.nil
      go_simp
      refine hK.out _ _ trivial (fun hHeld => ?_)
      clear hK K
      try simp only [List.getElem_toArray, List.getElem_cons_succ, List.getElem_cons_zero, Act.put, List.setIfInBounds_toArray, List.set_cons_zero, List.set_cons_succ]
      refine wpAnyH_done (by kernel_rfl) ?_ _
      go_wp2_with fail
      go_roundw
      case rel =>
        refine ⟨k + 1, _, by go_num, by omega, ?_, HE.out.2⟩
        have := HE.out.1
        rw [List.append_assoc, HB.out, ← be_take n k hlt] at this
        exact this
      case measure => simp [intOf]; omega
    · go_simp
      refine hK.out _ _ trivial (fun hHeld => ?_)
      clear hK K
      try simp only [List.getElem_toArray, List.getElem_cons_succ, List.getElem_cons_zero, Act.put, List.setIfInBounds_toArray, List.set_cons_zero, List.set_cons_succ]
      refine wpAnyH_ready (rs := [4]) (by kernel_rfl) (by simp) ?_
      refine AllReadyH.cons rfl (fun K hK => ?_) AllReadyH.nil
      go_simp
      refine hK.out _ _ trivial (fun hHeld => ?_)
      clear hK K
      try simp only [List.getElem_toArray, List.getElem_cons_succ, List.getElem_cons_zero, Act.put, List.setIfInBounds_toArray, List.set_cons_zero, List.set_cons_succ]
      refine wpAnyH_ready (rs := [12]) (by kernel_rfl) (by simp) ?_
      refine AllReadyH.cons rfl (fun K hK => ?_) AllReadyH.nil
      refine step_run_append rfl (.tmp 12) (.tmp 19) 23 23 rfl _ _ _ w' rfl rfl hrd ?_
      refine hK.out _ _ trivial (fun hHeld => ?_)
      clear hK K
      try simp only [List.getElem_toArray, List.getElem_cons_succ, List.getElem_cons_zero, Act.put, List.setIfInBounds_toArray, List.set_cons_zero, List.set_cons_succ]
      refine wpAnyH_take (i := 13) (v := ?_) rfl (by kernel_rfl) (by kernel_rfl) (by kernel_rfl) (fun _ _ _ h => h) (Or.inl ⟨by kernel_rfl, ?_⟩) (by assumption) ?_
      rotate_left
      · intro wS hSw
        go_simp
        try (with_reducible rfl)
      try simp only [List.getElem_toArray, List.getElem_cons_succ, List.getElem_cons_zero, Act.put, List.setIfInBounds_toArray, List.set_cons_zero, List.set_cons_succ]
      refine wpAnyH_take (i := 14) (v := ?_) rfl (by kernel_rfl) (by kernel_rfl) (by kernel_rfl) (fun _ _ _ h => h) (Or.inl ⟨by kernel_rfl, ?_⟩) (by assumption) ?_
      rotate_left
      · intro wS hSw
        go_simp
        try (with_reducible rfl)
      try simp only [List.getElem_toArray, List.getElem_cons_succ, List.getElem_cons_zero, Act.put, List.setIfInBounds_toArray, List.set_cons_zero, List.set_cons_succ]
      refine wpAnyH_ready (rs := [15]) (by kernel_rfl) (by simp) ?_
      refine AllReadyH.cons rfl (fun K hK => ?_) AllReadyH.nil
      go_simp
      refine hK.out _ _ trivial (fun hHeld => ?_)
      clear hK K
      try simp only [List.getElem_toArray, List.getElem_cons_succ, List.getElem_cons_zero, Act.put, List.setIfInBounds_toArray, List.set_cons_zero, List.set_cons_succ]
      refine wpAnyH_done (by kernel_rfl) ?_ _
      go_wp2_with fail
      go_roundw
      case rel =>
        refine ⟨k + 1, _, by go_num, by omega, ?_, HE.out.2⟩
        have := HE.out.1
        rw [List.append_assoc, HB.out, ← be_take n k hlt] at this
        exact this
      case measure => simp [intOf]; omega
end Go.Proofs.YtpklnhmhbaakhaaDoor
end
section
namespace Go.Proofs.YtpklnhmhbaakhaaDoor
open Go.RowKit
open Seal
open Bson (Val)
theorem two_items {w : World} {Q : Nat → Prop} {h g : Nat} {x y : Val} {a0 a1 a2 a3 a4 a5 b0 b1 b2 b3 b4 b5 : Value} {t : TypeId}
    (hr : w.heap[g]? = some (.cells #[a0, a1, a2, a3, a4, a5, b0, b1, b2, b3, b4, b5] t (0, 0))) (hq : Q g) (hx : VIn w Q h x (.agg #[a0, a1, a2, a3, a4, a5])) (hy : VIn w Q h y (.agg #[b0, b1, b2, b3, b4, b5])) :
    ItemsIn w Q (VIn w Q h) (some ⟨g, 0, none⟩) [x, y] := by
  have e : ∀ j c, (#[a0, a1, a2, a3, a4, a5, b0, b1, b2, b3, b4, b5] : Array Value)[j]? = some c → w.cell? ⟨g, j, none⟩ = some c := fun j c hc => (cell_of_row _ _ j _ _ _ hr).trans hc
  refine .inr ⟨g, 0, rfl, hq, fun i hi => ?_⟩
  match i, hi with
  | 0, _ => exact ⟨_, ⟨a0, a1, a2, a3, a4, a5, rfl, e _ _ rfl, e _ _ rfl, e _ _ rfl, e _ _ rfl, e _ _ rfl, e _ _ rfl⟩, hx⟩
  | 1, _ => exact ⟨_, ⟨b0, b1, b2, b3, b4, b5, rfl, e _ _ rfl, e _ _ rfl, e _ _ rfl, e _ _ rfl, e _ _ rfl, e _ _ rfl⟩, hy⟩
theorem one_items {w : World} {Q : Nat → Prop} {h g : Nat} {x : Val} {a0 a1 a2 a3 a4 a5 : Value} {t : TypeId}
    (hr : w.heap[g]? = some (.cells #[a0, a1, a2, a3, a4, a5] t (0, 0))) (hq : Q g) (hx : VIn w Q h x (.agg #[a0, a1, a2, a3, a4, a5])) :
    ItemsIn w Q (VIn w Q h) (some ⟨g, 0, none⟩) [x] := by
  have e : ∀ j c, (#[a0, a1, a2, a3, a4, a5] : Array Value)[j]? = some c → w.cell? ⟨g, j, none⟩ = some c := fun j c hc => (cell_of_row _ _ j _ _ _ hr).trans hc
  refine .inr ⟨g, 0, rfl, hq, fun i hi => ?_⟩
  match i, hi with
  | 0, _ => exact ⟨_, ⟨a0, a1, a2, a3, a4, a5, rfl, e _ _ rfl, e _ _ rfl, e _ _ rfl, e _ _ rfl, e _ _ rfl, e _ _ rfl⟩, hx⟩
/-- Whatever blocks are named. -/
theorem VIn.any {w : World} {Q : Nat → Prop} {h : Nat} {x : Val} {v : Value} (hv : VIn w Q h x v) : VIn w (fun _ => True) h x v := VIn.kept (Kept.of_below (Below.refl _ _)) (fun _ _ => trivial) hv
end Go.Proofs.YtpklnhmhbaakhaaDoor
end
section
namespace Go.Proofs.YtpklnhmhbaakhaaDoor
open Go.RowKit
open Seal
theorem sign_q (a b : Int) (w : World) : Calls Tryd.prog 48 #[.int .i64 a, .int .i64 b] w fun e w' => e = .returned (.int .i64 (Order.sgn a b)) ∧ w' = w := (sign_any a b w).mono fun _ _ ⟨h1, h2⟩ => ⟨h1, h2.symm⟩
theorem bytes_len (s : ByteArray) : (Order.bytes s).length = s.size := by unfold Order.bytes; rw [List.length_map]; exact Array.length_toList
theorem bytes_at (s : ByteArray) (k : Nat) (h : k < s.size) : (Order.bytes s)[k]'(by rw [bytes_len]; exact h) = s[k].toNat := by
  unfold Order.bytes
  rw [List.getElem_map]
  rfl
def TextGo (a b : ByteArray) (k : Nat) : Prop := Order.text a b = Order.lex Order.oct ((Order.bytes a).drop k) ((Order.bytes b).drop k)
theorem TextGo.next {a b : ByteArray} {k : Nat} (h : TextGo a b k) (ha : k < a.size) (hb : k < b.size) (e : a[k].toNat = b[k].toNat) : TextGo a b (k + 1) := by
  unfold TextGo at h ⊢
  rw [h]
  refine Order.lex_step (by rw [bytes_len]; exact ha) (by rw [bytes_len]; exact hb) ?_
  rw [bytes_at a k ha, bytes_at b k hb, e]
  exact Order.sgn_self _
theorem TextGo.here {a b : ByteArray} {k : Nat} (h : TextGo a b k) (ha : k < a.size) (hb : k < b.size) (e : ¬ a[k].toNat = b[k].toNat) : Order.text a b = Order.sgn (a[k].toNat : Int) (b[k].toNat : Int) := by
  unfold TextGo at h
  rw [h]
  refine (Order.lex_here (by rw [bytes_len]; exact ha) (by rw [bytes_len]; exact hb) ?_).trans ?_
  · rw [bytes_at a k ha, bytes_at b k hb]
    intro e2
    have := Order.sgn_zero.1 e2
    omega
  · rw [bytes_at a k ha, bytes_at b k hb]; rfl
theorem TextGo.last {a b : ByteArray} {k : Nat} (h : TextGo a b k) (ha : k ≤ a.size) (hb : k ≤ b.size) (e : ¬ (k < a.size ∧ k < b.size)) : Order.text a b = Order.sgn (a.size : Int) (b.size : Int) := by
  unfold TextGo at h
  rw [h, Order.lex_end (by rw [bytes_len]; exact ha) (by rw [bytes_len]; exact hb) (by rw [bytes_len, bytes_len]; omega), bytes_len, bytes_len]
set_option maxRecDepth 100000 in
set_option maxHeartbeats 4000000 in
theorem refText_any (a b : ByteArray) (w : World) (ha : a.size ≤ 140737488355328) (_ : b.size ≤ 140737488355328) :
    Calls Tryd.prog 50 #[.string a, .string b] w fun e w' => e = .returned (.int .i64 (Order.text a b)) ∧ ∃ q, w' = w.drewN q := by
  go_enter Tryd.func50, Tryd.ntmps50
  go_wp2
  go_loopw [5] (fun i wr => ∃ k : Nat, i = .int .i64 k ∧ k ≤ a.size ∧ k ≤ b.size ∧ Hid (TextGo a b k) ∧ Hid (∃ q, wr = w.drewN q)) (fun i _ => a.size - (intOf i).toNat)
  case atStart => exact ⟨0, rfl, Nat.zero_le _, Nat.zero_le _, rfl, ⟨0, rfl⟩⟩
  case round =>
    obtain ⟨k, rfl, hk, hk2, HT, HQ⟩ := hrel
    by_cases hka : k < a.size
    · by_cases hkb : k < b.size
      · by_cases e : a[k].toNat = b[k].toNat
        · have HN := Lib.hid (HT.out.next hka hkb e)
          have he : (((a[k].toNat : Nat) : Int) != ((b[k].toNat : Nat) : Int)) = false := by simp [e]
          clear e
          go_wp2
          go_quiet (fail)
          go_wp2
          go_roundw
          case rel => exact ⟨k + 1, by go_num, by omega, by omega, HN, by obtain ⟨q, hq⟩ := HQ.out; exact ⟨_, by rw [hq, World.drewN_drewN]⟩⟩
          case measure => simp [intOf]; omega
        · have HN := Lib.hid (HT.out.here hka hkb e)
          have he : (((a[k].toNat : Nat) : Int) != ((b[k].toNat : Nat) : Int)) = true := by rw [bne_iff_ne]; omega
          clear e
          go_wp2
          go_quiet (fail)
          go_wp2
          generalize hw1 : wr.drewN _ = w1
          have HW1 := Lib.hid hw1
          clear hw1
          have wa := IntWalk.i64_in (n := ((a[k].toNat : Nat) : Int)) (by have := a[k].toNat_lt; omega)
          have wb := IntWalk.i64_in (n := ((b[k].toNat : Nat) : Int)) (by have := b[k].toNat_lt; omega)
          go_quiet ((go_at_call 48; exact Calls.quiet_of_same (sign_q _ _ _)))
          go_wp2
          go_ret
          exact ⟨ret_i HN.out.symm, by obtain ⟨q, hq⟩ := HQ.out; exact ⟨_, by rw [← HW1.out, hq, World.drewN_drewN, World.drewN_drewN]⟩⟩
      · have HN := Lib.hid (HT.out.last hk hk2 (by omega))
        go_wp2_with (go_at_call 48; refine (sign_any _ _ _).mono ?_; rintro e w' ⟨rfl, rfl⟩)
        go_ret
        exact ⟨ret_i HN.out.symm, HQ.out⟩
    · have HN := Lib.hid (HT.out.last hk hk2 (by omega))
      go_wp2_with (go_at_call 48; refine (sign_any _ _ _).mono ?_; rintro e w' ⟨rfl, rfl⟩)
      go_ret
      exact ⟨ret_i HN.out.symm, HQ.out⟩
end Go.Proofs.YtpklnhmhbaakhaaDoor
end
section
namespace Go.Proofs.YtpklnhmhbaakhaaDoor
open Go.RowKit
open Seal
open Bson (Val)
theorem infoF7 : (Tryd.prog.info? 32).map (fun i => (i.zero, i.size, i.bytes)) = some (some (.agg #[.string ⟨#[]⟩, .int .i64 0, .int .i64 0, .string ⟨#[]⟩, .slice none 0 0, .slice none 0 0, .slice none 0 0]), 7, 120) := by kernel_rfl
theorem run_makeFlds (n : Nat) (hn : n ≤ 1172812402961) (u : World) : (Instr.makeSlice 24 (.int .i64 (n : Int)) (.int .i64 (n : Int))).run Tryd.prog u = .ok (.slice (some ⟨u.heap.size, 0, none⟩) n n) (u.alloc (.cells (madeCells #[.string ⟨#[]⟩, .int .i64 0, .int .i64 0, .string ⟨#[]⟩, .slice none 0 0, .slice none 0 0, .slice none 0 0] (n * 7)) 32)) := by
  obtain ⟨i0, hi, hz0, hz1, hz2⟩ := info_parts infoF7
  have h := run_make (P := Tryd.prog) u 24 32 i0 (.agg #[.string ⟨#[]⟩, .int .i64 0, .int .i64 0, .string ⟨#[]⟩, .slice none 0 0, .slice none 0 0, .slice none 0 0]) Tryd.underlying24 hi hz0 .i64 .i64 (n : Int) (n : Int) (by omega) (Int.le_refl _) (by rw [hz2]; omega) (by omega)
  rw [Int.toNat_natCast] at h
  simpa [hz1, Value.cells] using h
set_option maxRecDepth 100000 in
set_option maxHeartbeats 1000000 in
theorem eachF_any (Q : Nat → Prop) (h : Nat) (IH0 : CopyAt Q h) (a : Option Addr) (n c : Nat) (f : List (ByteArray × Val)) (w : World) (hn : f.length = n) (hnb : n ≤ 1172812402961) (hI : FieldsIn w Q (VIn w Q h) a f) :
    Calls Tryd.prog 39 #[.slice a n c, .func (.func 40) #[] #[]] w fun e w' => ∃ a' c', e = .returned (.slice a' n c') ∧ (n ≤ c' ∧ c' ≤ 9223372036854775807) ∧ FieldsIn w' (fun g => w.heap.size ≤ g) (VIn w' (fun g => w.heap.size ≤ g) h) a' f ∧ Below w.heap.size w w' := by
  have IH := Lib.hid (fun nm x c0 c1 c2 c3 c4 c5 w hv => copyfield_any Q h IH0 nm x c0 c1 c2 c3 c4 c5 w hv)
  have HI := Lib.hid hI
  have HN := Lib.hid hn
  have HNL : Hid (∀ i (hi : i < f.length), f[i].1.size ≤ 140737488355328) := by
    intro i hi
    rcases hI with h | ⟨g, o, _, _, h⟩
    · rw [h] at hi; simp at hi
    · exact (h i hi).2.1
  clear hI IH0 hn
  have hmk := run_makeFlds n hnb
  have he := fun u : World => Lib.run_eql_slice_nil (P := Tryd.prog) u 24 32 a n c 0 0 Tryd.underlying24
  cases a with
  | none =>
    have hnil : f = [] := by
      rcases HI.out with h | ⟨g, o, e, _⟩
      · exact h
      · cases e
    have hn0 : n = 0 := by rw [← HN.out, hnil]; rfl
    subst hn0
    have HNIL := Lib.hid hnil
    clear hnil
    go_enter Tryd.func39, Tryd.ntmps39
    go_wp2_with fail
    go_ret
    exact ⟨none, 0, rfl, ⟨Nat.le_refl _, by omega⟩, .inl HNIL.out, Below.refl _ _⟩
  | some p =>
    go_enter Tryd.func39, Tryd.ntmps39
    go_wp2_with fail
    go_loopw [15] (fun i wr => ∃ k : Nat, i = .int .i64 k ∧ k ≤ n ∧ Hid (Row6 wr w.heap.size 32 (n * 7)) ∧ Hid (Flds wr w.heap.size h f k) ∧ Hid (Below w.heap.size w wr)) (fun i _ => n - (intOf i).toNat)
    case atStart => exact ⟨0, rfl, Nat.zero_le _, ⟨_, heap_alloc_new w _, size_madeCells _ _⟩, Flds.none _ _ _ _, (Below.refl _ w).alloc (Nat.le_refl _) _⟩
    case round =>
      obtain ⟨k, rfl, hk, HR, HVS, HB⟩ := hrel
      by_cases hlt : k < n
      · obtain ⟨g, o, hla, _, hall⟩ := HI.out.resolve_left (fun e => by have := HN.out; rw [e] at this; simp at this; omega)
        obtain ⟨hnm, hns, v', hsix, hV⟩ := hall k (by have := HN.out; omega)
        obtain rfl := Option.some.inj hla
        obtain ⟨ka, na, sa, ba, fa, la, bl, bc, fl, fc, ll, lc, rfl⟩ := hV.shape
        have HV := Lib.hid (VIn.keep HB.out hV)
        obtain ⟨s0, s1, s2, s3, s4, s5⟩ := (hsix.keep HB.out).cells
        obtain ⟨nm, hnme⟩ : ∃ nm, nm = (f[k]'(by have := HN.out; omega)).1 := ⟨_, rfl⟩
        have HNM := Lib.hid hnme
        clear hnme
        have s6 : wr.cell? ⟨g, o + k * 7, none⟩ = some (.string nm) := by rw [HNM.out]; exact cell_keep HB.out hnm
        have HNS : Hid (nm.size ≤ 140737488355328) := by rw [HNM.out]; exact hns
        clear hall hsix hV hnm hns
        go_wp2_with fail
        have HVa := Lib.hid (VIn.keep ((Below.refl _ wr).alloc (Nat.le_refl _) (.cells #[.string nm, .int .i64 ka, .int .i64 na, .string sa, .slice ba bl bc, .slice fa fl fc, .slice la ll lc] 32)) HV.out)
        refine (IH.out nm _ _ _ _ _ _ _ _ HVa.out).mono ?_
        rintro e w2 ⟨e0, e1, e2, e3, e4, e5, rfl, hv2, hb2⟩
        obtain ⟨kd, nd, sd, bd, fd, ld, bm, bz, fm, fz, lm, lz, hsh⟩ := hv2.shape
        injection hsh with hsh
        injection hsh with hsh
        injection hsh with x0 hsh; injection hsh with x1 hsh; injection hsh with x2 hsh; injection hsh with x3 hsh; injection hsh with x4 hsh; injection hsh with x5 hsh
        subst x0 x1 x2 x3 x4 x5
        clear hsh
        have HB2 : Hid (Below wr.heap.size wr w2) := ((Below.refl _ wr).alloc (Nat.le_refl _) _).trans (hb2.mono (by simp))
        have HR2 := Lib.hid (HR.out.keep HB2.out)
        have HVS2 := Lib.hid (HVS.out.keep HB2.out)
        have HBw2 : Hid (Below w.heap.size w w2) := HB.out.trans (HB2.out.mono HB.out.size)
        have hGlt : w.heap.size < wr.heap.size := HR.out.lt
        have HV2 : Hid (VIn w2 (fun g => w.heap.size < g) h (f[k]'(by have := HN.out; omega)).2 (.agg #[.int .i64 kd, .int .i64 nd, .string sd, .slice bd bm bz, .slice fd fm fz, .slice ld lm lz])) := hv2.kept (Kept.of_below (Below.refl _ _)) (fun g hg => by simp at hg; omega)
        clear hv2 hb2
        obtain ⟨⟨z0, g0⟩, f0⟩ := HR2.out.at (j := k * 7) (by omega)
        obtain ⟨⟨z1, g1⟩, f1⟩ := HR2.out.at (j := k * 7 + 1) (by omega)
        obtain ⟨⟨z2, g2⟩, f2⟩ := HR2.out.at (j := k * 7 + 2) (by omega)
        obtain ⟨⟨z3, g3⟩, f3⟩ := HR2.out.at (j := k * 7 + 3) (by omega)
        obtain ⟨⟨z4, g4⟩, f4⟩ := HR2.out.at (j := k * 7 + 4) (by omega)
        obtain ⟨⟨z5, g5⟩, f5⟩ := HR2.out.at (j := k * 7 + 5) (by omega)
        obtain ⟨⟨z6, g6⟩, f6⟩ := HR2.out.at (j := k * 7 + 6) (by omega)
        have HN2 : Hid (Flds (puts w2 w.heap.size (k * 7) [.string nm, .int .i64 kd, .int .i64 nd, .string sd, .slice bd bm bz, .slice fd fm fz, .slice ld lm lz]) w.heap.size h f (k + 1)) := by
          have := HVS2.out.put HR2.out (by have := HN.out; omega) (by rw [HN.out]) HV2.out
          rw [← HNM.out] at this
          exact this
        have HR3 := Lib.hid (HR2.out.puts (k * 7) [.string nm, .int .i64 kd, .int .i64 nd, .string sd, .slice bd bm bz, .slice fd fm fz, .slice ld lm lz] (by simp; omega)).1
        have HB3 := Lib.hid (puts_below HBw2.out (G := w.heap.size) (Nat.le_refl _) [.string nm, .int .i64 kd, .int .i64 nd, .string sd, .slice bd bm bz, .slice fd fm fz, .slice ld lm lz] (k * 7))
        clear s0 s1 s2 s3 s4 s5 s6 HV HVa HVS HR HB
        go_wp2_with fail
        go_roundw
        case rel => exact ⟨k + 1, by go_num, by omega, HR3, HN2, HB3⟩
        case measure => simp [intOf]; omega
      · have hkk : k = n := by omega
        subst hkk
        go_wp2_with fail
        go_ret
        refine ⟨some ⟨w.heap.size, 0, none⟩, k, rfl, ⟨Nat.le_refl _, by omega⟩, .inr ⟨w.heap.size, 0, rfl, Nat.le_refl _, fun i hi => ?_⟩, HB.out⟩
        obtain ⟨h0, v, h1, h2⟩ := HVS.out i hi (by rw [← HN.out]; exact hi)
        rw [Nat.zero_add]
        exact ⟨h0, HNL.out i hi, v, h1, h2.kept (Kept.of_below (Below.refl _ _)) (fun g hg => Nat.le_of_lt hg)⟩
end Go.Proofs.YtpklnhmhbaakhaaDoor
end
