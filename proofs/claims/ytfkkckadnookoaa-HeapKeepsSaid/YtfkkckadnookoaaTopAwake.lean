/- aqueductlaw13.awake. -/
import Derived.Test.YtfkkckadnookoaaTopList
import Derived.Lib.SlBytesConst
namespace Go.Proofs.Ytfkkckadnookoaa
open Go.RowKit
open Seal
theorem sl_one (W : World) (a : Nat) (ha : a < 256) (fr : Nat × Nat) : SlQ (W.alloc (.cells #[.int .u8 (a : Int)] 5 fr)) (fun g => W.heap.size ≤ g) (.slice (some ⟨W.heap.size, 0, none⟩) 1 1) [a] :=
  ⟨⟨_, 1, rfl, ⟨Nat.le_refl _, by omega⟩, .inr ⟨_, 0, rfl, Nat.le_refl _, reads_new W [a] _ _⟩⟩, fun c hc => by rw [List.mem_singleton.1 hc]; exact ha, by simp⟩
/-- Two slices of a byte each, new ones. -/
theorem two_new (W : World) (a b : Nat) (ha : a < 256) (hb : b < 256) (f g : Nat × Nat) (W2 : World) (hW : W2 = (W.alloc (.cells #[.int .u8 (a : Int)] 5 f)).alloc (.cells #[.int .u8 (b : Int)] 5 g)) :
    SlQ W2 (fun k => W.heap.size ≤ k) (.slice (some ⟨W.heap.size, 0, none⟩) 1 1) [a] ∧ SlQ W2 (fun k => W.heap.size ≤ k) (.slice (some ⟨W.heap.size + 1, 0, none⟩) 1 1) [b] ∧ Below W.heap.size W W2 := by
  subst hW
  have h1 : Below W.heap.size W (W.alloc (.cells #[.int .u8 (a : Int)] 5 f)) := (Below.refl _ W).alloc (Nat.le_refl _) _
  have h2 : Below (W.alloc (.cells #[.int .u8 (a : Int)] 5 f)).heap.size (W.alloc (.cells #[.int .u8 (a : Int)] 5 f)) ((W.alloc (.cells #[.int .u8 (a : Int)] 5 f)).alloc (.cells #[.int .u8 (b : Int)] 5 g)) := (Below.refl _ _).alloc (Nat.le_refl _) _
  have e : (W.alloc (.cells #[.int .u8 (a : Int)] 5 f)).heap.size = W.heap.size + 1 := by simp
  have s2 := sl_one (W.alloc (.cells #[.int .u8 (a : Int)] 5 f)) b hb g
  rw [e] at s2
  exact ⟨(sl_one W a ha f).below h2, s2.mono (fun k hk _ => by omega), h1.trans (h2.mono (by omega))⟩
/-- Add of two such slices. -/
theorem add_two {w : World} {p m cn : Nat} {v : Value} {L : List (List Nat × List Nat)} (h : TopIs w p v m cn L) (hcn : cn ≤ 1000000) (hlim : L.length < 100000) (a b : Nat) (ha : a < 256) (hb : b < 256) (f g : Nat × Nat) (W2 : World) (hW : W2 = (w.alloc (.cells #[.int .u8 (a : Int)] 5 f)).alloc (.cells #[.int .u8 (b : Int)] 5 g)) {t : Bool} {L' : List (List Nat × List Nat)} (ht : Top.takes ck m ([a], [b]) L = t) (hL : Top.nxt ck m ([a], [b]) L = L') :
    Calls Try.prog 9 #[.pointer (some ⟨p, 0, none⟩), .agg #[.slice (some ⟨w.heap.size, 0, none⟩) 1 1, .slice (some ⟨w.heap.size + 1, 0, none⟩) 1 1]] W2 fun e w' => e = .returned (.bool t) ∧ ∃ v' cn', cn' ≤ cn + 1 ∧ TopIs w' p v' m cn' L' ∧ ∀ B, B ≤ p → B ≤ w.heap.size → Below B w w' := by
  obtain ⟨h1, h2, h3⟩ := two_new w a b ha hb f g W2 hW
  refine (add_any (h.keep h3) hcn hlim (fun k => w.heap.size ≤ k) _ _ [a] [b] h1 h2 (fun k hk e => by have := h.ge e; omega)).mono ?_
  rintro e w' ⟨he, v', cn', hc, hT, hr, _, _⟩
  rw [ht] at he; rw [hL] at hT
  refine ⟨he, v', cn', hc, hT, fun B hB hBw => ?_⟩
  have h4 : Below B w W2 := h3.mono hBw
  exact h4.trans (hr.below (by have := h3.size; omega) (fun k hk => by have := h.ge hk; omega))
/-- A slice of one byte as a text. -/
theorem conv_one {w : World} {Q : Nat → Prop} {v : Value} {l : List Nat} (h : SlQ w Q v l) : (convert 28 9 v).run Try.prog w = .ok (.string (strB l)) w := by
  obtain ⟨a, c, rfl, hs⟩ := h.is
  exact conv_str w a l.length c l rfl hs
theorem kc_next (w : World) (D : Array Value) (f : Nat × Nat) (C : Array Value) (n c : Nat) : (convert 28 28 (.slice (some ⟨w.heap.size + 1, 0, none⟩) n c)).run Try.prog ((w.alloc (.cells D 5 f)).alloc (.cells C 5)) = .ok (.slice (some ⟨w.heap.size + 1, 0, none⟩) n c) ((w.alloc (.cells D 5 f)).alloc (.cells C 5 (C.size, C.size + 1))) := by
  have h := Lib.run_convert_bytes_const (P := Try.prog) (w.alloc (.cells D 5 f)) 28 5 C n c Try.underlying28 Try.underlying5
  rwa [show (w.alloc (.cells D 5 f)).heap.size = w.heap.size + 1 by simp] at h
set_option maxRecDepth 100000 in
set_option maxHeartbeats 8000000 in
theorem awake13_any (w : World) : Calls Try.prog 6 #[] w fun e w' => e = .returned (.bool true) ∧ Below w.heap.size w w' := by
  have kc := fun (w : World) (C : Array Value) (n c : Nat) => Lib.run_convert_bytes_const (P := Try.prog) w 28 5 C n c Try.underlying28 Try.underlying5
  have kc2 := kc_next
  go_enter Try.func6, Try.ntmps6
  go_wp2_with fail
  go_at_call 8
  refine (new_any 2 w (by omega)).mono ?_
  rintro e1 w1 ⟨rfl, hT1, hb1⟩
  have HT1 := Lib.hid hT1; have HB1 := Lib.hid hb1
  clear hT1 hb1
  go_wp2_with fail
  go_at_call 9
  refine (add_two HT1.out (by omega) (by decide) 98 49 (by decide) (by decide) (1, 2) (1, 2) _ rfl (t := true) (L' := [([98], [49])]) (by decide) (by decide)).mono ?_
  rintro e2 w2 ⟨rfl, v2, c2, hc2, hT2, hb2⟩
  have HT2 := Lib.hid hT2; have HC2 := Lib.hid hc2
  have HB2 : Hid (Below w.heap.size w w2) := HB1.out.trans (hb2 _ (Nat.le_refl _) HB1.out.size)
  clear hT2 hc2 hb2 HT1 HB1
  go_wp2_with fail
  go_at_call 9
  refine (add_two HT2.out (by have := HC2.out; omega) (by decide) 97 50 (by decide) (by decide) (1, 2) (1, 2) _ rfl (t := true) (L' := [([97], [50]), ([98], [49])]) (by decide) (by decide)).mono ?_
  rintro e3 w3 ⟨rfl, v3, c3, hc3, hT3, hb3⟩
  have HT3 := Lib.hid hT3; have HC3 : Hid (c3 ≤ 2) := by have := HC2.out; unfold Hid; omega
  have HB3 : Hid (Below w.heap.size w w3) := HB2.out.trans (hb3 _ (Nat.le_refl _) HB2.out.size)
  clear hT3 hc3 hb3 HT2 HB2 HC2
  go_wp2_with fail
  go_at_call 9
  refine (add_two HT3.out (by have := HC3.out; omega) (by decide) 97 51 (by decide) (by decide) (1, 2) (1, 2) _ rfl (t := true) (L' := [([97], [50]), ([97], [51])]) (by decide) (by decide)).mono ?_
  rintro e4 w4 ⟨rfl, v4, c4, hc4, hT4, hb4⟩
  have HT4 := Lib.hid hT4
  have HB4 : Hid (Below w.heap.size w w4) := HB3.out.trans (hb4 _ (Nat.le_refl _) HB3.out.size)
  clear hT4 hc4 hb4 HT3 HB3 HC3
  go_wp2_with fail
  go_at_call 12
  refine (list_any HT4.out (by decide)).mono ?_
  rintro e5 w5 ⟨v5, rfl, hL5, hb5⟩
  obtain ⟨g, cc, rfl, hcc, hg, hgs, hit⟩ := hL5
  obtain ⟨k0, d0, q0, q1, q2, q3⟩ := hit 0 (by decide)
  obtain ⟨k1, d1, r0, r1, r2, r3⟩ := hit 1 (by decide)
  have HB5 : Hid (Below w.heap.size w w5) := HB4.out.trans (hb5.mono HB4.out.size)
  have s0 : (convert 28 9 d0).run Try.prog w5 = .ok (.string ⟨#[50]⟩) w5 := by rw [conv_one q3]; rfl
  have s1 : (convert 28 9 d1).run Try.prog w5 = .ok (.string ⟨#[51]⟩) w5 := by rw [conv_one r3]; rfl
  have HLEN : Hid (Calls Try.prog 13 #[.pointer (some ⟨w.heap.size, 0, none⟩)] w5 fun e w' => e = .returned (.int .i64 2) ∧ w' = w5) := tlen_any (HT4.out.keep hb5)
  have HSIZ : Hid (Calls Try.prog 16 #[.pointer (some ⟨w.heap.size, 0, none⟩)] w5 fun e w' => e = .returned (.int .i64 68) ∧ w' = w5) := tsize_any (HT4.out.keep hb5)
  have hq1 : w5.cell? ⟨g, 1, none⟩ = some d0 := q1
  have hr1 : w5.cell? ⟨g, 3, none⟩ = some d1 := r1
  clear q0 q1 q2 q3 r0 r1 r2 r3 hit hb5 hcc hg hgs HT4 HB4 kc kc2
  go_wp2_with (first | (go_at_call 13; refine HLEN.out.mono ?_; rintro e w6 ⟨rfl, rfl⟩) | (go_at_call 16; refine HSIZ.out.mono ?_; rintro e w6 ⟨rfl, rfl⟩))
  go_ret
  exact ⟨rfl, HB5.out⟩
end Go.Proofs.Ytfkkckadnookoaa
