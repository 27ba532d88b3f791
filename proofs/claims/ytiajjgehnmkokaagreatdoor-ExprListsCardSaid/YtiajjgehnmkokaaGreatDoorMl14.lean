/- PathMay. -/
import Derived.Test.YtiajjgehnmkokaaGreatDoorMl13
import Derived.Test.YtiajjgehnmkokaaGreatDoorMl0
set_option maxRecDepth 100000
set_option maxHeartbeats 20000000
section
namespace Go.Proofs.YtiajjgehnmkokaaGreatDoor
open Go.RowKit
open Seal
open Path
structure Ground (w : World) : Prop where
 tabs : Lib.Utf8Tabs 0 1 w
 most : ∃ m, w.cell? ⟨2, 0, none⟩ = some (.int .i64 m)
theorem Ground.keep {w w' : World} (h : Ground w) (hb : Below w.heap.size w w') : Ground w' := by
 obtain ⟨h1, m, h2⟩ := h
 exact ⟨⟨fun c hc => cell_keep hb (h1.1 c hc), fun i hi => ⟨cell_keep hb (h1.2 i hi).1, cell_keep hb (h1.2 i hi).2⟩⟩, m, cell_keep hb h2⟩
theorem may_eq (s : ByteArray) : Path.may s.data.toList = ((!s.data.toList.isEmpty) && (s.data.toList.headD 0 != 36) && decide (s.size ≤ 120) && decide (0 ∉ s.data.toList) && Lib.validD s.data.toList) := by
 unfold Path.may; rw [len_list]
theorem empty_iff (s : ByteArray) : s = ⟨#[]⟩ ↔ s.size = 0 := by
 constructor
 ·rintro rfl; rfl
 ·intro h
  obtain ⟨⟨l⟩⟩ := s
  cases l with
  | nil => rfl
  | cons a r => simp [ByteArray.size] at h
theorem head_byte (s : ByteArray) (h : 0 < s.size) : s.data.toList.isEmpty = false ∧ (s.data.toList.headD 0).toNat = byte s 0 := by
 have hl := len_list s
 unfold byte
 cases e : s.data.toList with
 | nil => rw [e] at hl; simp at hl; omega
 | cons c r => exact ⟨rfl, rfl⟩
theorem pathMay_any (s : ByteArray) (w : World) (hs : s.size ≤ 140737488355328) (hG : Ground w) :
  Calls Tryz.prog 76 #[.string s] w fun e w' => e = .returned (.bool (Path.may s.data.toList)) ∧ Below w.heap.size w w' := by
 have he := may_eq s
 by_cases h0 : s.size = 0
 ·obtain rfl := (empty_iff s).2 h0
  have hres : Path.may (⟨#[]⟩ : ByteArray).data.toList = false := rfl
  rw [hres]
  clear he hres
  go_enter Tryz.func76, Tryz.ntmps76
  go_wp2_with fail
  go_ret
  exact ⟨rfl, Below.refl _ _⟩
 ·obtain ⟨h1, h2⟩ := head_byte s (by omega)
  have hne : (s.toList == (⟨#[]⟩ : ByteArray).toList) = false := str_ne (fun e => h0 ((empty_iff s).1 e))
  have hne2 : ¬ s.toList = [] := fun e => h0 (by
   rw [ByteArray.toList_eq] at e
   have := len_list s
   obtain ⟨⟨l⟩⟩ := s
   simp only at e
   subst e
   rfl)
  have hemp : s.toList.isEmpty = false := by
   cases e : s.toList with
   | nil => exact absurd e hne2
   | cons _ _ => rfl
  have hpos : 0 < s.size := by omega
  have i0 : ∀ W, (Instr.index 9 (.string s) (.int .i64 0)).run Tryz.prog W = .ok (.int .u8 ((byte s 0 : Nat) : Int)) W := run_byte s 0 (by omega)
  obtain ⟨c, hc⟩ : ∃ c, c = byte s 0 := ⟨_, rfl⟩
  have hc256 : c < 256 := by rw [hc]; exact byte_lt s 0
  rw [← hc] at i0 h2
  by_cases hd : c = 36
  ·subst hd
   have hres : Path.may s.data.toList = false := by
    have : s.data.toList.headD 0 = 36 := UInt8.toNat_inj.1 h2
    rw [he, h1, this]; rfl
   rw [hres]
   clear he hres h1 h2 hc
   go_enter Tryz.func76, Tryz.ntmps76
   go_wp2_with fail
   go_ret
   exact ⟨rfl, Below.refl _ _⟩
  ·have hh : (s.data.toList.headD 0 != 36) = true := by
    rw [bne_iff_ne]; intro e; rw [e] at h2; exact hd h2.symm
   have hcb : ((c : Int) != 36) = true := by rw [bne_iff_ne]; omega
   rw [h1, hh] at he
   by_cases h120 : s.size ≤ 120
   ·have CI := Lib.hid (fun w => Tryz.strings_IndexByte s 0 w)
    have CV := Lib.hid (fun w (h : Ground w) => Tryz.utf8_ValidString s w (by omega) h.tabs)
    have hz := index_none s.data.toList 0
    have hzz : (0 : Int).toNat.toUInt8 = (0 : UInt8) := rfl
    rw [hzz] at CI
    by_cases hn : (0 : UInt8) ∉ s.data.toList
    ·have hlt : Lib.indexByte s.data.toList 0 < 0 := hz.2 hn
     have hres : Path.may s.data.toList = Lib.validD s.data.toList := by rw [he, decide_eq_true h120, decide_eq_true hn]; simp
     rw [hres]
     have HG := Lib.hid hG
     generalize Lib.indexByte s.data.toList 0 = Z at *
     clear he hres h1 h2 hc hh hz hn
     go_enter Tryz.func76, Tryz.ntmps76
     go_wp2_with fail
     refine (CI.out _).mono ?_
     rintro e w1 ⟨rfl, rfl⟩
     go_wp2_with fail
     refine (CV.out _ HG.out).mono ?_
     rintro e w2 ⟨rfl, hb⟩
     have HB := Lib.hid hb
     clear hb
     go_wp2_with fail
     go_ret
     exact ⟨rfl, HB.out⟩
    ·have hlt : ¬ Lib.indexByte s.data.toList 0 < 0 := fun h => hn (hz.1 h)
     have hres : Path.may s.data.toList = false := by rw [he, decide_eq_false hn]; simp
     rw [hres]
     generalize Lib.indexByte s.data.toList 0 = Z at *
     clear he hres h1 h2 hc hh hz hn CV
     go_enter Tryz.func76, Tryz.ntmps76
     go_wp2_with fail
     refine (CI.out _).mono ?_
     rintro e w1 ⟨rfl, rfl⟩
     go_wp2_with fail
     go_ret
     exact ⟨rfl, Below.refl _ _⟩
   ·have hres : Path.may s.data.toList = false := by rw [he, decide_eq_false h120]; simp
    rw [hres]
    clear he hres h1 h2 hc hh
    go_enter Tryz.func76, Tryz.ntmps76
    go_wp2_with fail
    go_ret
    exact ⟨rfl, Below.refl _ _⟩
end Go.Proofs.YtiajjgehnmkokaaGreatDoor
end
