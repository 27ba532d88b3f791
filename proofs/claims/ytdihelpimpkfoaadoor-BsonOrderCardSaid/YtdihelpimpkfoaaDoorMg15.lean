/- BsonWord. -/
import Derived.Lib.ValidLaws
import Derived.Test.YtdihelpimpkfoaaDoorMg8
set_option maxRecDepth 100000
section
namespace Go.Proofs.YtdihelpimpkfoaaDoor
open Go.RowKit
open Seal
/-- Bytes as the model's text has them. -/
def U (l : List Nat) : List UInt8 := l.map UInt8.ofNat
theorem leN_U : ∀ l : List Nat, Oct l → Bson.leN l = Lib.leNat (U l)
  | [], _ => rfl
  | c :: r, h => by
    have hc : c < 256 := h c (by simp)
    have := leN_U r (fun x hx => h x (by simp [hx]))
    simp only [U, List.map_cons, Bson.leN, Lib.leNat] at this ⊢
    rw [this]; simp [Nat.mod_eq_of_lt hc]
theorem asc_U (l : List Nat) (h : Oct l) : (∀ b ∈ U l, b.toNat < 128) ↔ ∀ c ∈ l, c < 128 := by
  constructor
  · intro hb c hc
    have h1 := hb (UInt8.ofNat c) (List.mem_map.2 ⟨c, hc, rfl⟩)
    have h2 : c < 256 := h c hc
    simpa [Nat.mod_eq_of_lt h2] using h1
  · intro hc b hb
    obtain ⟨c, hm, rfl⟩ := List.mem_map.1 hb
    have h1 := hc c hm
    have h2 : c < 256 := h c hm
    simpa [Nat.mod_eq_of_lt h2] using h1
/-- Eight bytes whose highest bits are none. -/
theorem leN_mask (l : List Nat) (h : Oct l) (h8 : l.length = 8) : Bson.leN l &&& 9259542123273814144 = 0 ↔ ∀ c ∈ l, c < 128 := by
  have h1 := Lib.leNat_mask (U l)
  rw [show (U l).length = 8 by simp [U, h8], Lib.maskN8, ← leN_U l h, asc_U l h] at h1
  exact h1
theorem leN8_lt (l : List Nat) (h : Oct l) (h8 : l.length = 8) : Bson.leN l < 18446744073709551616 := by
  have := Bson.leN_lt l h
  rw [h8] at this; exact this
theorem eight (l : List Nat) (h : l.length = 8) : l = [l.getD 0 0, l.getD 1 0, l.getD 2 0, l.getD 3 0, l.getD 4 0, l.getD 5 0, l.getD 6 0, l.getD 7 0] := by
  match l, h with
  | [a, b, c, d, e, f, g, i], _ => rfl
theorem wrap_b (c : Nat) (hc : c < 256) : IntKind.u64.wrap (c : Int) = (c : Int) := by rw [wrapU]; omega
theorem shl_u64 (c m : Nat) (M : Int) (hc : c < 256) (hM : M = (m : Int)) (h : 256 * m ≤ 18446744073709551616) : IntKind.u64.wrap (IntKind.u64.wrap (c : Int) * M) = ((c * m : Nat) : Int) := by
  have h1 : c * m ≤ 255 * m := Nat.mul_le_mul (by omega) (Nat.le_refl _)
  rw [wrap_b c hc, wrapU, hM]
  have e : ((c * m : Nat) : Int) = (c : Int) * (m : Int) := by simp
  rw [← e]; omega
theorem or_u64 (a c m i : Nat) (hm : 256 ^ i = m) (ha : a < m) (hc : c < 256) (h : 256 * m ≤ 18446744073709551616) : bits .or .u64 (a : Int) ((c * m : Nat) : Int) = ((a + c * m : Nat) : Int) := by
  have h1 : c * m ≤ 255 * m := Nat.mul_le_mul (by omega) (Nat.le_refl _)
  rw [u64_or_nat a (c * m) (by omega) (by omega)]
  subst hm
  rw [or_shift a c i ha]
theorem word_val (b0 b1 b2 b3 b4 b5 b6 b7 : Nat) (l0 : b0 < 256) (l1 : b1 < 256) (l2 : b2 < 256) (l3 : b3 < 256) (l4 : b4 < 256) (l5 : b5 < 256) (l6 : b6 < 256) (l7 : b7 < 256) :
    bits .or .u64 (bits .or .u64 (bits .or .u64 (bits .or .u64 (bits .or .u64 (bits .or .u64 (bits .or .u64 (IntKind.u64.wrap (b0 : Int)) (IntKind.u64.wrap (IntKind.u64.wrap (b1 : Int) * 256))) (IntKind.u64.wrap (IntKind.u64.wrap (b2 : Int) * 65536))) (IntKind.u64.wrap (IntKind.u64.wrap (b3 : Int) * 16777216))) (IntKind.u64.wrap (IntKind.u64.wrap (b4 : Int) * 4294967296))) (IntKind.u64.wrap (IntKind.u64.wrap (b5 : Int) * 1099511627776))) (IntKind.u64.wrap (IntKind.u64.wrap (b6 : Int) * 281474976710656))) (IntKind.u64.wrap (IntKind.u64.wrap (b7 : Int) * 72057594037927936))
      = ((b0 + b1 * 256 + b2 * 65536 + b3 * 16777216 + b4 * 4294967296 + b5 * 1099511627776 + b6 * 281474976710656 + b7 * 72057594037927936 : Nat) : Int) := by
  rw [wrap_b b0 l0, shl_u64 b1 256 256 l1 rfl (by decide), shl_u64 b2 65536 65536 l2 rfl (by decide), shl_u64 b3 16777216 16777216 l3 rfl (by decide), shl_u64 b4 4294967296 4294967296 l4 rfl (by decide), shl_u64 b5 1099511627776 1099511627776 l5 rfl (by decide), shl_u64 b6 281474976710656 281474976710656 l6 rfl (by decide), shl_u64 b7 72057594037927936 72057594037927936 l7 rfl (by decide)]
  rw [or_u64 b0 b1 256 1 rfl (by omega) l1 (by decide)]
  rw [or_u64 (b0 + b1 * 256) b2 65536 2 rfl (by omega) l2 (by decide)]
  rw [or_u64 (b0 + b1 * 256 + b2 * 65536) b3 16777216 3 rfl (by omega) l3 (by decide)]
  rw [or_u64 (b0 + b1 * 256 + b2 * 65536 + b3 * 16777216) b4 4294967296 4 rfl (by omega) l4 (by decide)]
  rw [or_u64 (b0 + b1 * 256 + b2 * 65536 + b3 * 16777216 + b4 * 4294967296) b5 1099511627776 5 rfl (by omega) l5 (by decide)]
  rw [or_u64 (b0 + b1 * 256 + b2 * 65536 + b3 * 16777216 + b4 * 4294967296 + b5 * 1099511627776) b6 281474976710656 6 rfl (by omega) l6 (by decide)]
  rw [or_u64 (b0 + b1 * 256 + b2 * 65536 + b3 * 16777216 + b4 * 4294967296 + b5 * 1099511627776 + b6 * 281474976710656) b7 72057594037927936 7 rfl (by omega) l7 (by decide)]
set_option maxRecDepth 100000 in
set_option maxHeartbeats 1000000 in
theorem word_any (w : World) (a : Option Addr) (n c : Nat) (l : List Nat) (hl : l.length = n) (hn : 8 ≤ n) (hn2 : n ≤ 9223372036854775807) (ho : Oct l) (hs : SliceIs w a l) :
    Calls Tryd.prog 69 #[.slice a n c] w fun e w' => e = .returned (.int .u64 ((Bson.leN (l.take 8) : Nat) : Int)) ∧ ∃ q, w' = w.drewN q := by
  obtain ⟨g, o, rfl, hr⟩ := hs.resolve_left (fun e => by rw [e] at hl; simp at hl; omega)
  have h8 : (l.take 8).length = 8 := by simp; omega
  have hgd : ∀ j, j < 8 → (l.take 8).getD j 0 = l.getD j 0 := fun j hj => by simp [List.getD_eq_getElem?_getD, hj]
  have hlt : ∀ j, l.getD j 0 < 256 := fun j => by
    rw [List.getD_eq_getElem?_getD]
    by_cases hj : j < l.length
    · rw [List.getElem?_eq_getElem hj]; exact ho _ (List.getElem_mem hj)
    · rw [List.getElem?_eq_none (by omega)]; decide
  have e8 := eight (l.take 8) h8
  rw [hgd 0 (by decide), hgd 1 (by decide), hgd 2 (by decide), hgd 3 (by decide), hgd 4 (by decide), hgd 5 (by decide), hgd 6 (by decide), hgd 7 (by decide)] at e8
  have k0 : w.cell? ⟨g, o, none⟩ = some (.int .u8 ((l.getD 0 0 : Nat) : Int)) := hr 0 (by omega)
  have k1 := hr 1 (by omega)
  have k2 := hr 2 (by omega)
  have k3 := hr 3 (by omega)
  have k4 := hr 4 (by omega)
  have k5 := hr 5 (by omega)
  have k6 := hr 6 (by omega)
  have k7 := hr 7 (by omega)
  have l0 := hlt 0; have l1 := hlt 1; have l2 := hlt 2; have l3 := hlt 3; have l4 := hlt 4; have l5 := hlt 5; have l6 := hlt 6; have l7 := hlt 7
  generalize l.getD 0 0 = b0 at *
  generalize l.getD 1 0 = b1 at *
  generalize l.getD 2 0 = b2 at *
  generalize l.getD 3 0 = b3 at *
  generalize l.getD 4 0 = b4 at *
  generalize l.getD 5 0 = b5 at *
  generalize l.getD 6 0 = b6 at *
  generalize l.getD 7 0 = b7 at *
  have HE : Hid (Bson.leN (l.take 8) = b0 + b1 * 256 + b2 * 65536 + b3 * 16777216 + b4 * 4294967296 + b5 * 1099511627776 + b6 * 281474976710656 + b7 * 72057594037927936) := by
    show _ = _
    rw [e8]
    simp only [Bson.leN]
    omega
  have HW := Lib.hid (word_val b0 b1 b2 b3 b4 b5 b6 b7 l0 l1 l2 l3 l4 l5 l6 l7)
  obtain ⟨hn7⟩ : Nonempty ((7 : Int) < (n : Int)) := ⟨by omega⟩
  clear h8 hgd hlt e8 hr ho hs l0 l1 l2 l3 l4 l5 l6 l7 hl
  go_enter Tryd.func69, Tryd.ntmps69
  go_wp2_with fail
  go_quiet (fail)
  go_wp2_with fail
  go_ret
  exact ⟨ret_eq (by rw [HE.out, ← HW.out]; rfl), _, rfl⟩
end Go.Proofs.YtdihelpimpkfoaaDoor
end
