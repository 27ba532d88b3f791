/- BsonMName. -/
import Derived.Test.YtngllchoiffniaaDoorMk6
import Derived.Test.YtngllchoiffniaaDoorMk2
import Derived.Test.YtngllchoiffniaaDoorMk8
import Derived.Test.YtngllchoiffniaaDoorMk1
set_option maxRecDepth 100000
set_option maxHeartbeats 20000000
section
namespace Go.Proofs.YtngllchoiffniaaDoor
open Go.RowKit
open Seal
open Bson (Val)
theorem tabs_lib {w : World} (h : Tabs8 w) : Lib.Utf8Tabs 1 2 w := by
 refine ⟨fun c hc => h.first c hc, fun i hi => ⟨?_, ?_⟩⟩
 ·have := h.lo i hi
  rw [Nat.mul_comm] at this
  exact this
 ·have := h.hi i hi
  rw [Nat.mul_comm] at this
  exact this
theorem U_bytes (s : ByteArray) : (Bson.bytes s).map UInt8.ofNat = s.data.toList := by
 unfold Bson.bytes
 rw [List.map_map]
 have e : (UInt8.ofNat ∘ UInt8.toNat) = id := by funext x; exact UInt8.ofNat_toNat
 rw [e, List.map_id]
theorem zeroAt_neg (l : List Nat) : zeroAt l < 0 ↔ 0 ∉ l := by
 unfold zeroAt
 have hl : l.findIdx (· == 0) < l.length ↔ 0 ∈ l := by
  rw [List.findIdx_lt_length]
  simp
 split <;> rename_i h
 ·exact ⟨fun h2 => by omega, fun h2 => absurd (hl.1 h) h2⟩
 ·exact ⟨fun _ h2 => h (hl.2 h2), fun _ => by omega⟩
def MPost (gm : Nat) (left : Int) (bs : Option (List Nat)) (w : World) (e : Ending) (w' : World) : Prop :=
 ∃ bo, e = .returned (.bool bo) ∧ w.grownBy w' (some gm) ∧ (bo = true → ∃ l, bs = some l ∧ (l.length : Int) ≤ left ∧ Mtr w' gm (left - l.length)) ∧ (bo = false → ¬ ∃ l, bs = some l ∧ (l.length : Int) ≤ left)
def headBytes (s : ByteArray) : Option (List Nat) := if Bson.nameMay s then some (0 :: (Bson.bytes s ++ [0])) else none
theorem mname_any (w : World) (gm : Nat) (left : Int) (s : ByteArray) (hM : Mtr w gm left) (hl : left ≤ 65536) (hs : s.size ≤ 140737488355328) (hT : Tabs8 w) :
  Calls Tryd.prog 74 #[.pointer (some ⟨gm, 0, none⟩), .string s] w (MPost gm left (headBytes s) w) := by
 have hlen : ∀ l, headBytes s = some l → l.length = s.size + 2 := by
  intro l h
  unfold headBytes at h
  split at h
  ·injection h with h; subst h; simp [Bson.bytes_length]
  ·cases h
 have hmay : Bson.nameMay s = (decide (0 ∉ Bson.bytes s) && decide (s.size ≤ 120) && Bson.u8 s) := rfl
 by_cases h120 : s.size ≤ 120
 ·have CV := Lib.hid (Tryd.utf8_ValidString s w (by omega) (tabs_lib hT))
  by_cases hu : Bson.u8 s = true
  ·have hu' : Lib.validD s.data.toList = true := hu
   rw [hu'] at CV
   have HM := Lib.hid hM
   have CI := Lib.hid (fun w => Tryd.strings_IndexByte s 0 w)
   have hi : Lib.indexByte s.data.toList (0 : Int).toNat.toUInt8 = zeroAt (Bson.bytes s) := by
    rw [← index_zero (Bson.bytes s) (Bson.bytes_lt s), U_bytes]; rfl
   rw [hi] at CI
   by_cases h0 : 0 ∈ Bson.bytes s
   ·have hz : ¬ zeroAt (Bson.bytes s) < 0 := fun h => (zeroAt_neg _).1 h h0
    have hno : Hid (¬ ∃ l, headBytes s = some l ∧ (l.length : Int) ≤ left) := by
     rintro ⟨l, h, _⟩
     unfold headBytes at h
     rw [hmay, show decide (0 ∉ Bson.bytes s) = false by simpa using h0] at h
     simp at h
    generalize zeroAt (Bson.bytes s) = Z at *
    have h120z : (s.size : Int) ≤ 120 := by omega
    clear hu hu' hi h0 hM hT hlen hmay
    go_enter Tryd.func74, Tryd.ntmps74
    go_wp2_with fail
    refine CV.out.mono ?_
    rintro e w' ⟨rfl, hb⟩
    have HB := Lib.hid hb
    clear hb
    go_wp2_with fail
    refine (CI.out _).mono ?_
    rintro e w'' ⟨rfl, rfl⟩
    go_wp2_with fail
    go_ret
    exact ⟨false, rfl, grown_of_below HB.out gm, nofun, fun _ => hno.out⟩
   ·have hz : zeroAt (Bson.bytes s) < 0 := (zeroAt_neg _).2 h0
    have hyes : headBytes s = some (0 :: (Bson.bytes s ++ [0])) := by
     unfold headBytes
     rw [hmay, decide_eq_true h0, decide_eq_true h120, hu]; rfl
    have HY := Lib.hid hyes
    have hln := hlen _ hyes
    have HLN := Lib.hid hln
    generalize zeroAt (Bson.bytes s) = Z at *
    have h120z : (s.size : Int) ≤ 120 := by omega
    have hs1 : IntKind.i64.wrap (1 + (s.size : Int)) = 1 + (s.size : Int) := IntWalk.i64_in _ (by omega)
    have hs2 : IntKind.i64.wrap (1 + (s.size : Int) + 1) = 1 + (s.size : Int) + 1 := IntWalk.i64_in _ (by omega)
    clear hu hu' hi h0 hM hT hlen hmay hyes hln
    by_cases hroom : 1 + (s.size : Int) + 1 ≤ left
    ·go_enter Tryd.func74, Tryd.ntmps74
     go_wp2_with fail
     refine CV.out.mono ?_
     rintro e w' ⟨rfl, hb⟩
     have HB := Lib.hid hb
     have CT := Lib.hid (mtake_yes w' gm left (1 + (s.size : Int) + 1) (HM.out.keep hb) (by omega) hroom hl)
     clear hb
     go_wp2_with fail
     refine (CI.out _).mono ?_
     rintro e w'' ⟨rfl, rfl⟩
     go_wp2_with fail
     refine CT.out.mono ?_
     rintro e w2 ⟨rfl, hM2, hg2⟩
     have HM2 := Lib.hid hM2
     have HG2 := Lib.hid hg2
     clear hM2 hg2
     go_wp2_with fail
     go_ret
     refine ⟨true, rfl, grown_then (grown_of_below HB.out gm) HG2.out, fun _ => ⟨_, HY.out, by rw [HLN.out]; omega, ?_⟩, nofun⟩
     have e : left - (((0 :: (Bson.bytes s ++ [0])).length : Nat) : Int) = left - (1 + (s.size : Int) + 1) := by rw [HLN.out]; omega
     rw [e]; exact HM2.out
    ·go_enter Tryd.func74, Tryd.ntmps74
     go_wp2_with fail
     refine CV.out.mono ?_
     rintro e w' ⟨rfl, hb⟩
     have HB := Lib.hid hb
     have CT := Lib.hid (mtake_no w' gm left (1 + (s.size : Int) + 1) (HM.out.keep hb) (by omega))
     clear hb
     go_wp2_with fail
     refine (CI.out _).mono ?_
     rintro e w'' ⟨rfl, rfl⟩
     go_wp2_with fail
     refine CT.out.mono ?_
     rintro e w2 ⟨rfl, rfl⟩
     go_wp2_with fail
     go_ret
     refine ⟨false, rfl, grown_of_below HB.out gm, nofun, fun _ => ?_⟩
     rintro ⟨l, h, h2⟩
     rw [HY.out] at h
     injection h with h; subst h
     rw [HLN.out] at h2
     omega
  ·have hu' : Lib.validD s.data.toList = false := (show Bson.u8 s = false by simpa using hu)
   rw [hu'] at CV
   have hno : Hid (¬ ∃ l, headBytes s = some l ∧ (l.length : Int) ≤ left) := by
    rintro ⟨l, h, _⟩
    unfold headBytes at h
    rw [hmay, show Bson.u8 s = false by simpa using hu] at h
    simp at h
   have h120z : (s.size : Int) ≤ 120 := by omega
   clear hu hu' hM hT hlen hmay
   go_enter Tryd.func74, Tryd.ntmps74
   go_wp2_with fail
   refine CV.out.mono ?_
   rintro e w' ⟨rfl, hb⟩
   have HB := Lib.hid hb
   clear hb
   go_wp2_with fail
   go_ret
   exact ⟨false, rfl, grown_of_below HB.out gm, nofun, fun _ => hno.out⟩
 ·have hno : Hid (¬ ∃ l, headBytes s = some l ∧ (l.length : Int) ≤ left) := by
   rintro ⟨l, h, _⟩
   unfold headBytes at h
   rw [hmay, decide_eq_false h120] at h
   simp at h
  have h120z : ¬ (s.size : Int) ≤ 120 := by omega
  clear hM hT hlen hmay
  go_enter Tryd.func74, Tryd.ntmps74
  go_wp2_with fail
  go_ret
  exact ⟨false, rfl, ⟨rfl, rfl, rfl, Nat.le_refl _, fun _ _ _ => rfl⟩, nofun, fun _ => hno.out⟩
end Go.Proofs.YtngllchoiffniaaDoor
end
