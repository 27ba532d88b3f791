/- RefOwnXT, RefFOutX, PathSmall, RefEnc, RefFields. -/
import Derived.Test.YtpiookgkkaafeaaDoorMd1
import Derived.Test.YtpiookgkkaafeaaDoorMd0
import Derived.Test.YtpiookgkkaafeaaDoorMg22
import Derived.Test.YtpiookgkkaafeaaDoorMg12
import Derived.Test.YtpiookgkkaafeaaDoorMg6
import Derived.Test.YtpiookgkkaafeaaDoorMg5
import Derived.Test.YtpiookgkkaafeaaDoorMg10
set_option maxRecDepth 100000
section
namespace Go.Proofs.YtpiookgkkaafeaaDoor
open Go.RowKit
open Seal
open Bson (Val)
/-- Bytes of one's own, told: a row at base or behind it. -/
structure MineX (w : World) (base : Nat) (v : Value) (n : Nat) (l : List Nat) : Prop where
  row : w.ownsRow base 5 1 v n (u8s l)
  oct : Oct l
  size : base ≤ w.heap.size
theorem MineX.below {w w' : World} {base : Nat} {v : Value} {n : Nat} {l : List Nat} (h : MineX w base v n l) (hb : Below w.heap.size w w') : MineX w' base v n l :=
  ⟨owns_below h.row hb, h.oct, Nat.le_trans h.size hb.size⟩
theorem MineX.bytes {w : World} {base B : Nat} {v : Value} {n : Nat} {l : List Nat} (h : MineX w base v n l) (hB : B ≤ base) : BytesX w (fun g => B ≤ g) v l :=
  (BytesX.own h.row h.oct).mono (fun _ hg => Nat.le_trans hB hg)
theorem str_bytes (s : ByteArray) : s.data.toList.map UInt8.toNat = Bson.bytes s := rfl
theorem MineX.str {w' : World} {base : Nat} {v' : Value} {n : Nat} {s : ByteArray} {l : List Nat} (ho : w'.ownsRow base 5 1 v' (n + s.size) (u8s l ++ Lib.strCells s)) (hl : Oct l) (hb : base ≤ w'.heap.size) : MineX w' base v' (n + s.size) (l ++ Bson.bytes s) := by
  rw [str_u8s, ← u8s_app] at ho
  exact ⟨ho, oct_app hl (oct_str s), hb⟩
theorem MineX.more {w' : World} {base : Nat} {v' : Value} {n m : Nat} {l k : List Nat} (ho : w'.ownsRow base 5 1 v' (n + m) (u8s l ++ u8s k)) (hl : Oct l) (hk : Oct k) (hb : base ≤ w'.heap.size) : MineX w' base v' (n + m) (l ++ k) := by
  rw [← u8s_app] at ho
  exact ⟨ho, oct_app hl hk, hb⟩
theorem sc_text2 {x : Val} {b : Bool} {s : ByteArray} (hk : x.kind = 5) (hs : s = x.s) (hb : b = Bson.bare x false true false false false) : OKR (Bson.scalar x) (b && Lib.validD s.data.toList) ((Bson.leI ((s.size : Int) + 1) 4 ++ Bson.bytes s) ++ [0]) := by
  rw [List.append_assoc]; exact sc_text hk hs hb
theorem sc_bytes2 {x : Val} {b : Bool} {bn : Nat} (hk : x.kind = 8) (hbn : bn = x.b.length) (hb : b = Bson.bare x false false true false false) : OKR (Bson.scalar x) b ((Bson.leI (bn : Int) 4 ++ [0]) ++ x.b) := by
  subst hbn
  rw [List.append_assoc]; exact sc_bytes hk hb
set_option maxRecDepth 100000 in
set_option maxHeartbeats 2000000 in
theorem ownx_text (Q : Nat → Prop) (h : Nat) (x : Val) (u : Value) (w : World) (d : Int) (hk : x.kind = 5) (hv : VIn w Q (h + 1) x u) (hsm : x.s.size ≤ 60000) :
    Calls Tryd.prog 29 #[u, .int .i64 d] w (OwnX Q w (Bson.scalar x)) := by
  obtain ⟨xk, xn, xs, ba, fa, la, bn, bc, fn, fc, ln, lc, rfl, hxk, hxn, hxs, hbn, hfn, hln, hL, hF, hI⟩ := hv.letters
  obtain rfl : xk = 5 := by rw [hxk, hk]
  have HV0 : Hid (VIn (w.alloc (.cells #[.int .i64 5, .int .i64 xn, .string xs, .slice ba bn bc, .slice fa fn fc, .slice la ln lc] 27)) Q (h + 1) x (.agg #[.int .i64 5, .int .i64 xn, .string xs, .slice ba bn bc, .slice fa fn fc, .slice la ln lc])) := VIn.keep ((Below.refl _ w).alloc (Nat.le_refl _) _) hv
  have HB0 : Hid (Below w.heap.size w (w.alloc (.cells #[.int .i64 5, .int .i64 xn, .string xs, .slice ba bn bc, .slice fa fn fc, .slice la ln lc] 27))) := (Below.refl _ w).alloc (Nat.le_refl _) _
  have hS := SixIs.new w (.int .i64 5) (.int .i64 xn) (.string xs) (.slice ba bn bc) (.slice fa fn fc) (.slice la ln lc) 27
  have HS0 := Lib.hid hS
  have HXS : Hid (xs.size ≤ 140737488355328) := by rw [hxs]; exact hL.s
  have hsz : xs.size ≤ 60000 := by rw [hxs]; exact hsm
  have HWR : Hid (IntKind.i64.wrap ((xs.size : Int) + 1) = (xs.size : Int) + 1) := IntWalk.i64_in _ (by omega)
  clear hsm
  have HKX := Lib.hid (And.intro hk hxs)
  clear hv hxk hk hS hxn hxs hbn hfn hln hL hF hI
  generalize hW : w.alloc (.cells #[.int .i64 5, .int .i64 xn, .string xs, .slice ba bn bc, .slice fa fn fc, .slice la ln lc] 27) = W0 at *
  obtain ⟨e0, e1, e2, e3, e4, e5⟩ := HS0.out
  have hf : W0.cell? ⟨w.heap.size, 0, none⟩ = some (.int .i64 5) ∧ W0.cell? ⟨w.heap.size, 1, none⟩ = some (.int .i64 xn) ∧ W0.cell? ⟨w.heap.size, 2, none⟩ = some (.string xs) ∧ W0.cell? ⟨w.heap.size, 3, none⟩ = some (.slice ba bn bc) ∧ W0.cell? ⟨w.heap.size, 4, none⟩ = some (.slice fa fn fc) ∧ W0.cell? ⟨w.heap.size, 5, none⟩ = some (.slice la ln lc) := HS0.out
  have HDR : Hid (Below W0.heap.size W0 W0.drew) := (Below.refl _ W0).drew
  obtain ⟨i0, hi, hz0, hz1, hz2⟩ := info_parts infoU8
  obtain ⟨b2, hb2⟩ : ∃ b2, b2 = Bson.bare x false true false false false := ⟨_, rfl⟩
  have HBARE : Hid (∀ wx, VIn wx Q (h + 1) x (.agg #[.int .i64 5, .int .i64 xn, .string xs, .slice ba bn bc, .slice fa fn fc, .slice la ln lc]) → Calls Tryd.prog 57 #[.agg #[.int .i64 5, .int .i64 xn, .string xs, .slice ba bn bc, .slice fa fn fc, .slice la ln lc], .bool false, .bool true, .bool false, .bool false, .bool false] wx fun e w' => e = .returned (.bool b2) ∧ Below wx.heap.size wx w') := fun wx hx => by rw [hb2]; exact bare_some2 Q (h + 1) x _ wx hx
  have HBE := Lib.hid hb2
  clear hb2
  have HUTF : Hid (∀ wx, Below W0.heap.size W0 wx → Calls Tryd.prog 46 #[.string xs] wx fun e w' => e = .returned (.bool (Lib.validD xs.data.toList)) ∧ Below wx.heap.size wx w') := fun wx _ => utf8ref_any xs wx HXS.out
  have dz : decide ((65536 : Int) < (xs.size : Int)) = false := decide_eq_false (by omega)
  cases b2
  · go_enter Tryd.func29, Tryd.ntmps29
    go_wp2_with fail
    clear hW
    refine wp_region_held_drew (S := fun W => W.cell? ⟨w.heap.size, 0, none⟩ = some (.int .i64 5) ∧ W.cell? ⟨w.heap.size, 1, none⟩ = some (.int .i64 xn) ∧ W.cell? ⟨w.heap.size, 2, none⟩ = some (.string xs) ∧ W.cell? ⟨w.heap.size, 3, none⟩ = some (.slice ba bn bc) ∧ W.cell? ⟨w.heap.size, 4, none⟩ = some (.slice fa fn fc) ∧ W.cell? ⟨w.heap.size, 5, none⟩ = some (.slice la ln lc)) (by kernel_rfl) (by exact hf) (fun hHeld => ?_)
    generalize W0.drew = wd at *
    refine wpAnyH_take (i := 0) (v := ?_) rfl (by kernel_rfl) (by kernel_rfl) (by kernel_rfl) (fun _ _ _ h => h) (Or.inl ⟨by kernel_rfl, ?_⟩) (by assumption) ?_
    rotate_left
    · intro wS hSw
      (try dsimp only at hSw)
      go_simp
      try (with_reducible rfl)
    try simp only [List.getElem_toArray, List.getElem_cons_zero, Act.put, List.setIfInBounds_toArray, List.set_cons_zero, List.set_cons_succ]
    refine wpAnyH_take (i := 1) (v := ?_) rfl (by kernel_rfl) (by kernel_rfl) (by kernel_rfl) (fun _ _ _ h => h) (Or.inl ⟨by kernel_rfl, ?_⟩) (by assumption) ?_
    rotate_left
    · intro wS hSw
      (try dsimp only at hSw)
      go_simp
      try (with_reducible rfl)
    try simp only [List.getElem_toArray, List.getElem_cons_succ, List.getElem_cons_zero, Act.put, List.setIfInBounds_toArray, List.set_cons_zero, List.set_cons_succ]
    refine wpAnyH_take (i := 2) (v := ?_) rfl (by kernel_rfl) (by kernel_rfl) (by kernel_rfl) (fun _ _ _ h => h) (Or.inl ⟨by kernel_rfl, ?_⟩) (by assumption) ?_
    rotate_left
    · intro wS hSw
      (try dsimp only at hSw)
      go_simp
      try (with_reducible rfl)
    try simp only [List.getElem_toArray, List.getElem_cons_succ, List.getElem_cons_zero, Act.put, List.setIfInBounds_toArray, List.set_cons_zero, List.set_cons_succ]
    refine wpAnyH_take (i := 3) (v := ?_) rfl (by kernel_rfl) (by kernel_rfl) (by kernel_rfl) (fun _ _ _ h => h) (Or.inl ⟨by kernel_rfl, ?_⟩) (by assumption) ?_
    rotate_left
    · intro wS hSw
      (try dsimp only at hSw)
      go_simp
      try (with_reducible rfl)
    try simp only [List.getElem_toArray, List.getElem_cons_succ, List.getElem_cons_zero, Act.put, List.setIfInBounds_toArray, List.set_cons_zero, List.set_cons_succ]
    refine wpAnyH_take (i := 5) (v := ?_) rfl (by kernel_rfl) (by kernel_rfl) (by kernel_rfl) (fun _ _ _ h => h) (Or.inl ⟨by kernel_rfl, ?_⟩) (by assumption) ?_
    rotate_left
    · intro wS hSw
      (try dsimp only at hSw)
      go_simp
      try (with_reducible rfl)
    try simp only [List.getElem_toArray, List.getElem_cons_succ, List.getElem_cons_zero, Act.put, List.setIfInBounds_toArray, List.set_cons_zero, List.set_cons_succ]
    refine wpAnyH_take (i := 6) (v := ?_) rfl (by kernel_rfl) (by kernel_rfl) (by kernel_rfl) (fun _ _ _ h => h) (Or.inl ⟨by kernel_rfl, ?_⟩) (by assumption) ?_
    rotate_left
    · intro wS hSw
      (try dsimp only at hSw)
      go_simp
      try (with_reducible rfl)
    try simp only [List.getElem_toArray, List.getElem_cons_succ, List.getElem_cons_zero, Act.put, List.setIfInBounds_toArray, List.set_cons_zero, List.set_cons_succ]
    refine wpAnyH_take (i := 10) (v := ?_) rfl (by kernel_rfl) (by kernel_rfl) (by kernel_rfl) (fun _ _ _ h => h) (Or.inl ⟨by kernel_rfl, ?_⟩) (by assumption) ?_
    rotate_left
    · intro wS hSw
      (try dsimp only at hSw)
      go_simp
      try (with_reducible rfl)
    try simp only [List.getElem_toArray, List.getElem_cons_succ, List.getElem_cons_zero, Act.put, List.setIfInBounds_toArray, List.set_cons_zero, List.set_cons_succ]
    refine wpAnyH_ready (rs := [4, 8]) (by kernel_rfl) (by simp) ?_
    refine AllReadyH.cons rfl (fun K hK => ?_) (AllReadyH.cons rfl (fun K hK => ?_) (AllReadyH.nil))
    · go_simp
      go_at_call 58
      refine (num_x _ 4 wd (by decide)).mono ?_
      rintro e w1 ⟨v1, rfl, ho, hb⟩
      (try rw [HWR.out] at ho)
      have HBw1 : Hid (Below W0.heap.size W0 w1) := HDR.out.trans (hb.mono HDR.out.size)
      have HMw1 : Hid (MineX w1 wd.heap.size v1 4 (Bson.leI ((xs.size : Int) + 1) 4)) := ⟨ho, leI_oct _ _, hb.size⟩
      have HBSw1 : Hid (W0.heap.size ≤ wd.heap.size) := HDR.out.size
      have hfw1 := HS0.out.keep HBw1.out
      unfold SixIs at hfw1
      clear ho hb
      refine hK.out _ _ (by exact hfw1) (fun hHeld => ?_)
      clear hK K
      try simp only [List.getElem_toArray, List.getElem_cons_succ, List.getElem_cons_zero, Act.put, List.setIfInBounds_toArray, List.set_cons_zero, List.set_cons_succ]
      refine wpAnyH_ready (rs := [7, 8]) (by kernel_rfl) (by simp) ?_
      refine AllReadyH.cons rfl (fun K hK => ?_) (AllReadyH.cons rfl (fun K hK => ?_) (AllReadyH.nil))
      · obtain ⟨ho1, hoct1, hbs1⟩ := HMw1.out
        refine step_append_str rfl (.tmp 68) (.tmp 70) 22 9 rfl (wd.heap.size) 5 i0 Tryd.underlying22 Tryd.underlying9 hi hz0 hz1 hz2 v1 4 (u8s (Bson.leI ((xs.size : Int) + 1) 4)) rfl ho1 xs rfl (by unfold maxLen; omega) (by omega) hbs1 ?_
        intro v2 w2 ho hg
        have HBw2 : Hid (Below W0.heap.size W0 w2) := HBw1.out.grown hg HBw1.out.size (fun j hj => Nat.le_trans HBSw1.out (owns_block ho1 hj).1)
        have HMw2 : Hid (MineX w2 (wd.heap.size) v2 (4 + xs.size) ((Bson.leI ((xs.size : Int) + 1) 4) ++ Bson.bytes xs)) := MineX.str ho hoct1 (Nat.le_trans hbs1 hg.size)
        have hfw2 := HS0.out.keep HBw2.out
        unfold SixIs at hfw2
        clear ho hg ho1 hoct1 hbs1
        refine hK.out _ _ (by exact hfw2) (fun hHeld => ?_)
        clear hK K
        try simp only [List.getElem_toArray, List.getElem_cons_succ, List.getElem_cons_zero, Act.put, List.setIfInBounds_toArray, List.set_cons_zero, List.set_cons_succ]
        refine wpAnyH_ready (rs := [8]) (by kernel_rfl) (by simp) ?_
        refine AllReadyH.cons rfl (fun K hK => ?_) (AllReadyH.nil)
        go_simp
        have HBw3 : Hid (Below W0.heap.size W0 (w2.alloc (.cells #[.int .u8 0] 5))) := HBw2.out.alloc HBw2.out.size _
        have HNw3 : Hid (NoughtAt (w2.alloc (.cells #[.int .u8 0] 5)) w2.heap.size) := NoughtAt.new w2 _
        have HMw3 : Hid (MineX (w2.alloc (.cells #[.int .u8 0] 5)) (wd.heap.size) v2 (4 + xs.size) ((Bson.leI ((xs.size : Int) + 1) 4) ++ Bson.bytes xs)) := HMw2.out.below ((Below.refl _ _).alloc (Nat.le_refl _) _)
        have HDw3 : Hid (∀ g, v2.ownBlock = some g → g ≠ w2.heap.size) := fun g hg e => by obtain ⟨h1, _, _⟩ := HMw2.out; have := (owns_block h1 hg).2; omega
        have HNSw3 : Hid (W0.heap.size ≤ w2.heap.size) := HBw2.out.size
        generalize w2.alloc (.cells #[.int .u8 0] 5) = w3 at *
        have hfw3 := HS0.out.keep HBw3.out
        unfold SixIs at hfw3
        refine hK.out _ _ (by exact hfw3) (fun hHeld => ?_)
        clear hK K
        try simp only [List.getElem_toArray, List.getElem_cons_succ, List.getElem_cons_zero, Act.put, List.setIfInBounds_toArray, List.set_cons_zero, List.set_cons_succ]
        refine wpAnyH_ready (rs := [9]) (by kernel_rfl) (by simp) ?_
        refine AllReadyH.cons rfl (fun K hK => ?_) (AllReadyH.nil)
        obtain ⟨ho1, hoct1, hbs1⟩ := HMw3.out
        refine step_append_src rfl (.tmp 71) (.tmp 72) 22 rfl (wd.heap.size) 5 i0 (.int .u8 0) 1 1 Tryd.underlying22 hi hz0 hz1 hz2 rfl (by decide) v2 (4 + xs.size) (u8s ((Bson.leI ((xs.size : Int) + 1) 4) ++ Bson.bytes xs)) rfl ho1 (some ⟨w2.heap.size, 0, none⟩) 1 1 (u8s [0]) rfl ⟨fun e => (by cases e), fun ad e => (by cases e; exact HNw3.out.reads)⟩ rfl (fun u hu => by simp [u8s] at hu; subst hu; rfl) (by unfold maxLen; omega) (by omega) hbs1 ?_
        intro v4 w4 ho hg
        have HBw4 : Hid (Below W0.heap.size W0 w4) := HBw3.out.grown hg HBw3.out.size (fun j hj => Nat.le_trans HBSw1.out (owns_block ho1 hj).1)
        have HMw4 : Hid (MineX w4 (wd.heap.size) v4 (4 + xs.size + 1) (((Bson.leI ((xs.size : Int) + 1) 4) ++ Bson.bytes xs) ++ [0])) := MineX.more ho hoct1 oct_nought (Nat.le_trans hbs1 hg.size)
        have hfw4 := HS0.out.keep HBw4.out
        unfold SixIs at hfw4
        clear ho hg ho1 hoct1 hbs1
        refine hK.out _ _ (by exact hfw4) (fun hHeld => ?_)
        clear hK K
        try simp only [List.getElem_toArray, List.getElem_cons_succ, List.getElem_cons_zero, Act.put, List.setIfInBounds_toArray, List.set_cons_zero, List.set_cons_succ]
        refine wpAnyH_ready (rs := [11]) (by kernel_rfl) (by simp) ?_
        refine AllReadyH.cons rfl (fun K hK => ?_) (AllReadyH.nil)
        go_simp
        go_at_call 57
        refine (HBARE.out w4 (VIn.keep HBw4.out HV0.out)).mono ?_
        rintro e w5 ⟨rfl, hb⟩
        have HBw5 : Hid (Below W0.heap.size W0 w5) := HBw4.out.trans (hb.mono HBw4.out.size)
        have HMw5 : Hid (MineX w5 (wd.heap.size) v4 (4 + xs.size + 1) (((Bson.leI ((xs.size : Int) + 1) 4) ++ Bson.bytes xs) ++ [0])) := HMw4.out.below hb
        have hfw5 := HS0.out.keep HBw5.out
        unfold SixIs at hfw5
        clear hb
        refine hK.out _ _ (by exact hfw5) (fun hHeld => ?_)
        clear hK K
        try simp only [List.getElem_toArray, List.getElem_cons_succ, List.getElem_cons_zero, Act.put, List.setIfInBounds_toArray, List.set_cons_zero, List.set_cons_succ]
        refine wpAnyH_take (i := 12) (v := ?_) rfl (by kernel_rfl) (by kernel_rfl) (by kernel_rfl) (fun _ _ _ h => h) (Or.inl ⟨by kernel_rfl, ?_⟩) (by assumption) ?_
        rotate_left
        · intro wS hSw
          (try dsimp only at hSw)
          go_simp
          try (with_reducible rfl)
        try simp only [List.getElem_toArray, List.getElem_cons_succ, List.getElem_cons_zero, Act.put, List.setIfInBounds_toArray, List.set_cons_zero, List.set_cons_succ]
        refine wpAnyH_take (i := 13) (v := undef) rfl (by kernel_rfl) (by kernel_rfl) (by kernel_rfl) (fun _ _ _ h => h) (Or.inr ⟨by kernel_rfl, rfl⟩) (by assumption) ?_
        try simp only [List.getElem_toArray, List.getElem_cons_succ, List.getElem_cons_zero, Act.put, List.setIfInBounds_toArray, List.set_cons_zero, List.set_cons_succ]
        refine wpAnyH_take (i := 14) (v := undef) rfl (by kernel_rfl) (by kernel_rfl) (by kernel_rfl) (fun _ _ _ h => h) (Or.inr ⟨by kernel_rfl, rfl⟩) (by assumption) ?_
        try simp only [List.getElem_toArray, List.getElem_cons_succ, List.getElem_cons_zero, Act.put, List.setIfInBounds_toArray, List.set_cons_zero, List.set_cons_succ]
        refine wpAnyH_take (i := 15) (v := undef) rfl (by kernel_rfl) (by kernel_rfl) (by kernel_rfl) (fun _ _ _ h => h) (Or.inr ⟨by kernel_rfl, rfl⟩) (by assumption) ?_
        try simp only [List.getElem_toArray, List.getElem_cons_succ, List.getElem_cons_zero, Act.put, List.setIfInBounds_toArray, List.set_cons_zero, List.set_cons_succ]
        refine wpAnyH_take (i := 17) (v := ?_) rfl (by kernel_rfl) (by kernel_rfl) (by kernel_rfl) (fun _ _ _ h => h) (Or.inl ⟨by kernel_rfl, ?_⟩) (by assumption) ?_
        rotate_left
        · intro wS hSw
          (try dsimp only at hSw)
          go_simp
          try (with_reducible rfl)
        try simp only [List.getElem_toArray, List.getElem_cons_succ, List.getElem_cons_zero, Act.put, List.setIfInBounds_toArray, List.set_cons_zero, List.set_cons_succ]
        refine wpAnyH_take (i := 16) (v := ?_) rfl (by kernel_rfl) (by kernel_rfl) (by kernel_rfl) (fun _ _ _ h => h) (Or.inl ⟨by kernel_rfl, ?_⟩) (by assumption) ?_
        rotate_left
        · intro wS hSw
          (try dsimp only at hSw)
          go_simp
          try (with_reducible rfl)
        try simp only [List.getElem_toArray, List.getElem_cons_succ, List.getElem_cons_zero, Act.put, List.setIfInBounds_toArray, List.set_cons_zero, List.set_cons_succ]
        refine wpAnyH_take (i := 18) (v := ?_) rfl (by kernel_rfl) (by kernel_rfl) (by kernel_rfl) (fun _ _ _ h => h) (Or.inl ⟨by kernel_rfl, ?_⟩) (by assumption) ?_
        rotate_left
        · intro wS hSw
          (try dsimp only at hSw)
          go_simp
          try (with_reducible rfl)
        try simp only [List.getElem_toArray, List.getElem_cons_succ, List.getElem_cons_zero, Act.put, List.setIfInBounds_toArray, List.set_cons_zero, List.set_cons_succ]
        refine wpAnyH_done (by kernel_rfl) ?_ _
        go_wp2_with fail
        refine bodyPost_ret (v := .tuple #[v4, .bool _]) (by simp [results, Tryd.results29, go_sem]; rfl) rfl ?_
        exact ⟨_, _, _, rfl, (HMw5.out.bytes (Nat.le_trans HB0.out.size HBSw1.out)).mono (fun g hg => .inr hg), sc_text2 HKX.out.1 HKX.out.2 HBE.out, HB0.out.trans (HBw5.out.mono HB0.out.size)⟩
      · go_simp
        have HBw6 : Hid (Below W0.heap.size W0 (w1.alloc (.cells #[.int .u8 0] 5))) := HBw1.out.alloc HBw1.out.size _
        have HNw6 : Hid (NoughtAt (w1.alloc (.cells #[.int .u8 0] 5)) w1.heap.size) := NoughtAt.new w1 _
        have HMw6 : Hid (MineX (w1.alloc (.cells #[.int .u8 0] 5)) (wd.heap.size) v1 (4) (Bson.leI ((xs.size : Int) + 1) 4)) := HMw1.out.below ((Below.refl _ _).alloc (Nat.le_refl _) _)
        have HDw6 : Hid (∀ g, v1.ownBlock = some g → g ≠ w1.heap.size) := fun g hg e => by obtain ⟨h1, _, _⟩ := HMw1.out; have := (owns_block h1 hg).2; omega
        have HNSw6 : Hid (W0.heap.size ≤ w1.heap.size) := HBw1.out.size
        generalize w1.alloc (.cells #[.int .u8 0] 5) = w6 at *
        have hfw6 := HS0.out.keep HBw6.out
        unfold SixIs at hfw6
        refine hK.out _ _ (by exact hfw6) (fun hHeld => ?_)
        clear hK K
        try simp only [List.getElem_toArray, List.getElem_cons_succ, List.getElem_cons_zero, Act.put, List.setIfInBounds_toArray, List.set_cons_zero, List.set_cons_succ]
        refine wpAnyH_ready (rs := [7]) (by kernel_rfl) (by simp) ?_
        refine AllReadyH.cons rfl (fun K hK => ?_) (AllReadyH.nil)
        obtain ⟨ho1, hoct1, hbs1⟩ := HMw6.out
        refine step_append_str rfl (.tmp 68) (.tmp 70) 22 9 rfl (wd.heap.size) 5 i0 Tryd.underlying22 Tryd.underlying9 hi hz0 hz1 hz2 v1 4 (u8s (Bson.leI ((xs.size : Int) + 1) 4)) rfl ho1 xs rfl (by unfold maxLen; omega) (by omega) hbs1 ?_
        intro v7 w7 ho hg
        have HBw7 : Hid (Below W0.heap.size W0 w7) := HBw6.out.grown hg HBw6.out.size (fun j hj => Nat.le_trans HBSw1.out (owns_block ho1 hj).1)
        have HMw7 : Hid (MineX w7 (wd.heap.size) v7 (4 + xs.size) ((Bson.leI ((xs.size : Int) + 1) 4) ++ Bson.bytes xs)) := MineX.str ho hoct1 (Nat.le_trans hbs1 hg.size)
        have HNw7 : Hid (NoughtAt w7 (w1.heap.size)) := ⟨Nat.lt_of_lt_of_le HNw6.out.1 hg.size, hg.cell HNw6.out.2 (fun e => HDw6.out _ e.symm rfl)⟩
        have hfw7 := HS0.out.keep HBw7.out
        unfold SixIs at hfw7
        clear ho hg ho1 hoct1 hbs1
        refine hK.out _ _ (by exact hfw7) (fun hHeld => ?_)
        clear hK K
        try simp only [List.getElem_toArray, List.getElem_cons_succ, List.getElem_cons_zero, Act.put, List.setIfInBounds_toArray, List.set_cons_zero, List.set_cons_succ]
        refine wpAnyH_ready (rs := [9]) (by kernel_rfl) (by simp) ?_
        refine AllReadyH.cons rfl (fun K hK => ?_) (AllReadyH.nil)
        obtain ⟨ho1, hoct1, hbs1⟩ := HMw7.out
        refine step_append_src rfl (.tmp 71) (.tmp 72) 22 rfl (wd.heap.size) 5 i0 (.int .u8 0) 1 1 Tryd.underlying22 hi hz0 hz1 hz2 rfl (by decide) v7 (4 + xs.size) (u8s ((Bson.leI ((xs.size : Int) + 1) 4) ++ Bson.bytes xs)) rfl ho1 (some ⟨w1.heap.size, 0, none⟩) 1 1 (u8s [0]) rfl ⟨fun e => (by cases e), fun ad e => (by cases e; exact HNw7.out.reads)⟩ rfl (fun u hu => by simp [u8s] at hu; subst hu; rfl) (by unfold maxLen; omega) (by omega) hbs1 ?_
        intro v8 w8 ho hg
        have HBw8 : Hid (Below W0.heap.size W0 w8) := HBw7.out.grown hg HBw7.out.size (fun j hj => Nat.le_trans HBSw1.out (owns_block ho1 hj).1)
        have HMw8 : Hid (MineX w8 (wd.heap.size) v8 (4 + xs.size + 1) (((Bson.leI ((xs.size : Int) + 1) 4) ++ Bson.bytes xs) ++ [0])) := MineX.more ho hoct1 oct_nought (Nat.le_trans hbs1 hg.size)
        have hfw8 := HS0.out.keep HBw8.out
        unfold SixIs at hfw8
        clear ho hg ho1 hoct1 hbs1
        refine hK.out _ _ (by exact hfw8) (fun hHeld => ?_)
        clear hK K
        try simp only [List.getElem_toArray, List.getElem_cons_succ, List.getElem_cons_zero, Act.put, List.setIfInBounds_toArray, List.set_cons_zero, List.set_cons_succ]
        refine wpAnyH_ready (rs := [11]) (by kernel_rfl) (by simp) ?_
        refine AllReadyH.cons rfl (fun K hK => ?_) (AllReadyH.nil)
        go_simp
        go_at_call 57
        refine (HBARE.out w8 (VIn.keep HBw8.out HV0.out)).mono ?_
        rintro e w9 ⟨rfl, hb⟩
        have HBw9 : Hid (Below W0.heap.size W0 w9) := HBw8.out.trans (hb.mono HBw8.out.size)
        have HMw9 : Hid (MineX w9 (wd.heap.size) v8 (4 + xs.size + 1) (((Bson.leI ((xs.size : Int) + 1) 4) ++ Bson.bytes xs) ++ [0])) := HMw8.out.below hb
        have hfw9 := HS0.out.keep HBw9.out
        unfold SixIs at hfw9
        clear hb
        refine hK.out _ _ (by exact hfw9) (fun hHeld => ?_)
        clear hK K
        try simp only [List.getElem_toArray, List.getElem_cons_succ, List.getElem_cons_zero, Act.put, List.setIfInBounds_toArray, List.set_cons_zero, List.set_cons_succ]
        refine wpAnyH_take (i := 12) (v := ?_) rfl (by kernel_rfl) (by kernel_rfl) (by kernel_rfl) (fun _ _ _ h => h) (Or.inl ⟨by kernel_rfl, ?_⟩) (by assumption) ?_
        rotate_left
        · intro wS hSw
          (try dsimp only at hSw)
          go_simp
          try (with_reducible rfl)
        try simp only [List.getElem_toArray, List.getElem_cons_succ, List.getElem_cons_zero, Act.put, List.setIfInBounds_toArray, List.set_cons_zero, List.set_cons_succ]
        refine wpAnyH_take (i := 13) (v := undef) rfl (by kernel_rfl) (by kernel_rfl) (by kernel_rfl) (fun _ _ _ h => h) (Or.inr ⟨by kernel_rfl, rfl⟩) (by assumption) ?_
        try simp only [List.getElem_toArray, List.getElem_cons_succ, List.getElem_cons_zero, Act.put, List.setIfInBounds_toArray, List.set_cons_zero, List.set_cons_succ]
        refine wpAnyH_take (i := 14) (v := undef) rfl (by kernel_rfl) (by kernel_rfl) (by kernel_rfl) (fun _ _ _ h => h) (Or.inr ⟨by kernel_rfl, rfl⟩) (by assumption) ?_
        try simp only [List.getElem_toArray, List.getElem_cons_succ, List.getElem_cons_zero, Act.put, List.setIfInBounds_toArray, List.set_cons_zero, List.set_cons_succ]
        refine wpAnyH_take (i := 15) (v := undef) rfl (by kernel_rfl) (by kernel_rfl) (by kernel_rfl) (fun _ _ _ h => h) (Or.inr ⟨by kernel_rfl, rfl⟩) (by assumption) ?_
        try simp only [List.getElem_toArray, List.getElem_cons_succ, List.getElem_cons_zero, Act.put, List.setIfInBounds_toArray, List.set_cons_zero, List.set_cons_succ]
        refine wpAnyH_take (i := 17) (v := ?_) rfl (by kernel_rfl) (by kernel_rfl) (by kernel_rfl) (fun _ _ _ h => h) (Or.inl ⟨by kernel_rfl, ?_⟩) (by assumption) ?_
        rotate_left
        · intro wS hSw
          (try dsimp only at hSw)
          go_simp
          try (with_reducible rfl)
        try simp only [List.getElem_toArray, List.getElem_cons_succ, List.getElem_cons_zero, Act.put, List.setIfInBounds_toArray, List.set_cons_zero, List.set_cons_succ]
        refine wpAnyH_take (i := 16) (v := ?_) rfl (by kernel_rfl) (by kernel_rfl) (by kernel_rfl) (fun _ _ _ h => h) (Or.inl ⟨by kernel_rfl, ?_⟩) (by assumption) ?_
        rotate_left
        · intro wS hSw
          (try dsimp only at hSw)
          go_simp
          try (with_reducible rfl)
        try simp only [List.getElem_toArray, List.getElem_cons_succ, List.getElem_cons_zero, Act.put, List.setIfInBounds_toArray, List.set_cons_zero, List.set_cons_succ]
        refine wpAnyH_take (i := 18) (v := ?_) rfl (by kernel_rfl) (by kernel_rfl) (by kernel_rfl) (fun _ _ _ h => h) (Or.inl ⟨by kernel_rfl, ?_⟩) (by assumption) ?_
        rotate_left
        · intro wS hSw
          (try dsimp only at hSw)
          go_simp
          try (with_reducible rfl)
        try simp only [List.getElem_toArray, List.getElem_cons_succ, List.getElem_cons_zero, Act.put, List.setIfInBounds_toArray, List.set_cons_zero, List.set_cons_succ]
        refine wpAnyH_done (by kernel_rfl) ?_ _
        go_wp2_with fail
        refine bodyPost_ret (v := .tuple #[v8, .bool _]) (by simp [results, Tryd.results29, go_sem]; rfl) rfl ?_
        exact ⟨_, _, _, rfl, (HMw9.out.bytes (Nat.le_trans HB0.out.size HBSw1.out)).mono (fun g hg => .inr hg), sc_text2 HKX.out.1 HKX.out.2 HBE.out, HB0.out.trans (HBw9.out.mono HB0.out.size)⟩
    · go_simp
      have HBw10 : Hid (Below W0.heap.size W0 (wd.alloc (.cells #[.int .u8 0] 5))) := HDR.out.alloc HDR.out.size _
      have HNw10 : Hid (NoughtAt (wd.alloc (.cells #[.int .u8 0] 5)) wd.heap.size) := NoughtAt.new wd _
      have HNSw10 : Hid (W0.heap.size ≤ wd.heap.size) := HDR.out.size
      generalize wd.alloc (.cells #[.int .u8 0] 5) = w10 at *
      have hfw10 := HS0.out.keep HBw10.out
      unfold SixIs at hfw10
      refine hK.out _ _ (by exact hfw10) (fun hHeld => ?_)
      clear hK K
      try simp only [List.getElem_toArray, List.getElem_cons_succ, List.getElem_cons_zero, Act.put, List.setIfInBounds_toArray, List.set_cons_zero, List.set_cons_succ]
      refine wpAnyH_ready (rs := [4]) (by kernel_rfl) (by simp) ?_
      refine AllReadyH.cons rfl (fun K hK => ?_) (AllReadyH.nil)
      go_simp
      go_at_call 58
      refine (num_x _ 4 w10 (by decide)).mono ?_
      rintro e w11 ⟨v11, rfl, ho, hb⟩
      (try rw [HWR.out] at ho)
      have HBw11 : Hid (Below W0.heap.size W0 w11) := HBw10.out.trans (hb.mono HBw10.out.size)
      have HMw11 : Hid (MineX w11 w10.heap.size v11 4 (Bson.leI ((xs.size : Int) + 1) 4)) := ⟨ho, leI_oct _ _, hb.size⟩
      have HNw11 : Hid (NoughtAt w11 wd.heap.size) := HNw10.out.keep hb
      have HDw11 : Hid (∀ g, v11.ownBlock = some g → g ≠ wd.heap.size) := fun g hg e => by have := (owns_block ho hg).1; have := HNw10.out.1; omega
      have HBSw11 : Hid (W0.heap.size ≤ w10.heap.size) := HBw10.out.size
      have hfw11 := HS0.out.keep HBw11.out
      unfold SixIs at hfw11
      clear ho hb
      refine hK.out _ _ (by exact hfw11) (fun hHeld => ?_)
      clear hK K
      try simp only [List.getElem_toArray, List.getElem_cons_succ, List.getElem_cons_zero, Act.put, List.setIfInBounds_toArray, List.set_cons_zero, List.set_cons_succ]
      refine wpAnyH_ready (rs := [7]) (by kernel_rfl) (by simp) ?_
      refine AllReadyH.cons rfl (fun K hK => ?_) (AllReadyH.nil)
      obtain ⟨ho1, hoct1, hbs1⟩ := HMw11.out
      refine step_append_str rfl (.tmp 68) (.tmp 70) 22 9 rfl (w10.heap.size) 5 i0 Tryd.underlying22 Tryd.underlying9 hi hz0 hz1 hz2 v11 4 (u8s (Bson.leI ((xs.size : Int) + 1) 4)) rfl ho1 xs rfl (by unfold maxLen; omega) (by omega) hbs1 ?_
      intro v12 w12 ho hg
      have HBw12 : Hid (Below W0.heap.size W0 w12) := HBw11.out.grown hg HBw11.out.size (fun j hj => Nat.le_trans HBSw11.out (owns_block ho1 hj).1)
      have HMw12 : Hid (MineX w12 (w10.heap.size) v12 (4 + xs.size) ((Bson.leI ((xs.size : Int) + 1) 4) ++ Bson.bytes xs)) := MineX.str ho hoct1 (Nat.le_trans hbs1 hg.size)
      have HNw12 : Hid (NoughtAt w12 (wd.heap.size)) := ⟨Nat.lt_of_lt_of_le HNw11.out.1 hg.size, hg.cell HNw11.out.2 (fun e => HDw11.out _ e.symm rfl)⟩
      have hfw12 := HS0.out.keep HBw12.out
      unfold SixIs at hfw12
      clear ho hg ho1 hoct1 hbs1
      refine hK.out _ _ (by exact hfw12) (fun hHeld => ?_)
      clear hK K
      try simp only [List.getElem_toArray, List.getElem_cons_succ, List.getElem_cons_zero, Act.put, List.setIfInBounds_toArray, List.set_cons_zero, List.set_cons_succ]
      refine wpAnyH_ready (rs := [9]) (by kernel_rfl) (by simp) ?_
      refine AllReadyH.cons rfl (fun K hK => ?_) (AllReadyH.nil)
      obtain ⟨ho1, hoct1, hbs1⟩ := HMw12.out
      refine step_append_src rfl (.tmp 71) (.tmp 72) 22 rfl (w10.heap.size) 5 i0 (.int .u8 0) 1 1 Tryd.underlying22 hi hz0 hz1 hz2 rfl (by decide) v12 (4 + xs.size) (u8s ((Bson.leI ((xs.size : Int) + 1) 4) ++ Bson.bytes xs)) rfl ho1 (some ⟨wd.heap.size, 0, none⟩) 1 1 (u8s [0]) rfl ⟨fun e => (by cases e), fun ad e => (by cases e; exact HNw12.out.reads)⟩ rfl (fun u hu => by simp [u8s] at hu; subst hu; rfl) (by unfold maxLen; omega) (by omega) hbs1 ?_
      intro v13 w13 ho hg
      have HBw13 : Hid (Below W0.heap.size W0 w13) := HBw12.out.grown hg HBw12.out.size (fun j hj => Nat.le_trans HBSw11.out (owns_block ho1 hj).1)
      have HMw13 : Hid (MineX w13 (w10.heap.size) v13 (4 + xs.size + 1) (((Bson.leI ((xs.size : Int) + 1) 4) ++ Bson.bytes xs) ++ [0])) := MineX.more ho hoct1 oct_nought (Nat.le_trans hbs1 hg.size)
      have hfw13 := HS0.out.keep HBw13.out
      unfold SixIs at hfw13
      clear ho hg ho1 hoct1 hbs1
      refine hK.out _ _ (by exact hfw13) (fun hHeld => ?_)
      clear hK K
      try simp only [List.getElem_toArray, List.getElem_cons_succ, List.getElem_cons_zero, Act.put, List.setIfInBounds_toArray, List.set_cons_zero, List.set_cons_succ]
      refine wpAnyH_ready (rs := [11]) (by kernel_rfl) (by simp) ?_
      refine AllReadyH.cons rfl (fun K hK => ?_) (AllReadyH.nil)
      go_simp
      go_at_call 57
      refine (HBARE.out w13 (VIn.keep HBw13.out HV0.out)).mono ?_
      rintro e w14 ⟨rfl, hb⟩
      have HBw14 : Hid (Below W0.heap.size W0 w14) := HBw13.out.trans (hb.mono HBw13.out.size)
      have HMw14 : Hid (MineX w14 (w10.heap.size) v13 (4 + xs.size + 1) (((Bson.leI ((xs.size : Int) + 1) 4) ++ Bson.bytes xs) ++ [0])) := HMw13.out.below hb
      have hfw14 := HS0.out.keep HBw14.out
      unfold SixIs at hfw14
      clear hb
      refine hK.out _ _ (by exact hfw14) (fun hHeld => ?_)
      clear hK K
      try simp only [List.getElem_toArray, List.getElem_cons_succ, List.getElem_cons_zero, Act.put, List.setIfInBounds_toArray, List.set_cons_zero, List.set_cons_succ]
      refine wpAnyH_take (i := 12) (v := ?_) rfl (by kernel_rfl) (by kernel_rfl) (by kernel_rfl) (fun _ _ _ h => h) (Or.inl ⟨by kernel_rfl, ?_⟩) (by assumption) ?_
      rotate_left
      · intro wS hSw
        (try dsimp only at hSw)
        go_simp
        try (with_reducible rfl)
      try simp only [List.getElem_toArray, List.getElem_cons_succ, List.getElem_cons_zero, Act.put, List.setIfInBounds_toArray, List.set_cons_zero, List.set_cons_succ]
      refine wpAnyH_take (i := 13) (v := undef) rfl (by kernel_rfl) (by kernel_rfl) (by kernel_rfl) (fun _ _ _ h => h) (Or.inr ⟨by kernel_rfl, rfl⟩) (by assumption) ?_
      try simp only [List.getElem_toArray, List.getElem_cons_succ, List.getElem_cons_zero, Act.put, List.setIfInBounds_toArray, List.set_cons_zero, List.set_cons_succ]
      refine wpAnyH_take (i := 14) (v := undef) rfl (by kernel_rfl) (by kernel_rfl) (by kernel_rfl) (fun _ _ _ h => h) (Or.inr ⟨by kernel_rfl, rfl⟩) (by assumption) ?_
      try simp only [List.getElem_toArray, List.getElem_cons_succ, List.getElem_cons_zero, Act.put, List.setIfInBounds_toArray, List.set_cons_zero, List.set_cons_succ]
      refine wpAnyH_take (i := 15) (v := undef) rfl (by kernel_rfl) (by kernel_rfl) (by kernel_rfl) (fun _ _ _ h => h) (Or.inr ⟨by kernel_rfl, rfl⟩) (by assumption) ?_
      try simp only [List.getElem_toArray, List.getElem_cons_succ, List.getElem_cons_zero, Act.put, List.setIfInBounds_toArray, List.set_cons_zero, List.set_cons_succ]
      refine wpAnyH_take (i := 17) (v := ?_) rfl (by kernel_rfl) (by kernel_rfl) (by kernel_rfl) (fun _ _ _ h => h) (Or.inl ⟨by kernel_rfl, ?_⟩) (by assumption) ?_
      rotate_left
      · intro wS hSw
        (try dsimp only at hSw)
        go_simp
        try (with_reducible rfl)
      try simp only [List.getElem_toArray, List.getElem_cons_succ, List.getElem_cons_zero, Act.put, List.setIfInBounds_toArray, List.set_cons_zero, List.set_cons_succ]
      refine wpAnyH_take (i := 16) (v := ?_) rfl (by kernel_rfl) (by kernel_rfl) (by kernel_rfl) (fun _ _ _ h => h) (Or.inl ⟨by kernel_rfl, ?_⟩) (by assumption) ?_
      rotate_left
      · intro wS hSw
        (try dsimp only at hSw)
        go_simp
        try (with_reducible rfl)
      try simp only [List.getElem_toArray, List.getElem_cons_succ, List.getElem_cons_zero, Act.put, List.setIfInBounds_toArray, List.set_cons_zero, List.set_cons_succ]
      refine wpAnyH_take (i := 18) (v := ?_) rfl (by kernel_rfl) (by kernel_rfl) (by kernel_rfl) (fun _ _ _ h => h) (Or.inl ⟨by kernel_rfl, ?_⟩) (by assumption) ?_
      rotate_left
      · intro wS hSw
        (try dsimp only at hSw)
        go_simp
        try (with_reducible rfl)
      try simp only [List.getElem_toArray, List.getElem_cons_succ, List.getElem_cons_zero, Act.put, List.setIfInBounds_toArray, List.set_cons_zero, List.set_cons_succ]
      refine wpAnyH_done (by kernel_rfl) ?_ _
      go_wp2_with fail
      refine bodyPost_ret (v := .tuple #[v13, .bool _]) (by simp [results, Tryd.results29, go_sem]; rfl) rfl ?_
      exact ⟨_, _, _, rfl, (HMw14.out.bytes (Nat.le_trans HB0.out.size HBSw11.out)).mono (fun g hg => .inr hg), sc_text2 HKX.out.1 HKX.out.2 HBE.out, HB0.out.trans (HBw14.out.mono HB0.out.size)⟩
  · go_enter Tryd.func29, Tryd.ntmps29
    go_wp2_with fail
    clear hW
    refine wp_region_held_drew (S := fun W => W.cell? ⟨w.heap.size, 0, none⟩ = some (.int .i64 5) ∧ W.cell? ⟨w.heap.size, 1, none⟩ = some (.int .i64 xn) ∧ W.cell? ⟨w.heap.size, 2, none⟩ = some (.string xs) ∧ W.cell? ⟨w.heap.size, 3, none⟩ = some (.slice ba bn bc) ∧ W.cell? ⟨w.heap.size, 4, none⟩ = some (.slice fa fn fc) ∧ W.cell? ⟨w.heap.size, 5, none⟩ = some (.slice la ln lc)) (by kernel_rfl) (by exact hf) (fun hHeld => ?_)
    generalize W0.drew = wd at *
    refine wpAnyH_take (i := 0) (v := ?_) rfl (by kernel_rfl) (by kernel_rfl) (by kernel_rfl) (fun _ _ _ h => h) (Or.inl ⟨by kernel_rfl, ?_⟩) (by assumption) ?_
    rotate_left
    · intro wS hSw
      (try dsimp only at hSw)
      go_simp
      try (with_reducible rfl)
    try simp only [List.getElem_toArray, List.getElem_cons_zero, Act.put, List.setIfInBounds_toArray, List.set_cons_zero, List.set_cons_succ]
    refine wpAnyH_take (i := 1) (v := ?_) rfl (by kernel_rfl) (by kernel_rfl) (by kernel_rfl) (fun _ _ _ h => h) (Or.inl ⟨by kernel_rfl, ?_⟩) (by assumption) ?_
    rotate_left
    · intro wS hSw
      (try dsimp only at hSw)
      go_simp
      try (with_reducible rfl)
    try simp only [List.getElem_toArray, List.getElem_cons_succ, List.getElem_cons_zero, Act.put, List.setIfInBounds_toArray, List.set_cons_zero, List.set_cons_succ]
    refine wpAnyH_take (i := 2) (v := ?_) rfl (by kernel_rfl) (by kernel_rfl) (by kernel_rfl) (fun _ _ _ h => h) (Or.inl ⟨by kernel_rfl, ?_⟩) (by assumption) ?_
    rotate_left
    · intro wS hSw
      (try dsimp only at hSw)
      go_simp
      try (with_reducible rfl)
    try simp only [List.getElem_toArray, List.getElem_cons_succ, List.getElem_cons_zero, Act.put, List.setIfInBounds_toArray, List.set_cons_zero, List.set_cons_succ]
    refine wpAnyH_take (i := 3) (v := ?_) rfl (by kernel_rfl) (by kernel_rfl) (by kernel_rfl) (fun _ _ _ h => h) (Or.inl ⟨by kernel_rfl, ?_⟩) (by assumption) ?_
    rotate_left
    · intro wS hSw
      (try dsimp only at hSw)
      go_simp
      try (with_reducible rfl)
    try simp only [List.getElem_toArray, List.getElem_cons_succ, List.getElem_cons_zero, Act.put, List.setIfInBounds_toArray, List.set_cons_zero, List.set_cons_succ]
    refine wpAnyH_take (i := 5) (v := ?_) rfl (by kernel_rfl) (by kernel_rfl) (by kernel_rfl) (fun _ _ _ h => h) (Or.inl ⟨by kernel_rfl, ?_⟩) (by assumption) ?_
    rotate_left
    · intro wS hSw
      (try dsimp only at hSw)
      go_simp
      try (with_reducible rfl)
    try simp only [List.getElem_toArray, List.getElem_cons_succ, List.getElem_cons_zero, Act.put, List.setIfInBounds_toArray, List.set_cons_zero, List.set_cons_succ]
    refine wpAnyH_take (i := 6) (v := ?_) rfl (by kernel_rfl) (by kernel_rfl) (by kernel_rfl) (fun _ _ _ h => h) (Or.inl ⟨by kernel_rfl, ?_⟩) (by assumption) ?_
    rotate_left
    · intro wS hSw
      (try dsimp only at hSw)
      go_simp
      try (with_reducible rfl)
    try simp only [List.getElem_toArray, List.getElem_cons_succ, List.getElem_cons_zero, Act.put, List.setIfInBounds_toArray, List.set_cons_zero, List.set_cons_succ]
    refine wpAnyH_take (i := 10) (v := ?_) rfl (by kernel_rfl) (by kernel_rfl) (by kernel_rfl) (fun _ _ _ h => h) (Or.inl ⟨by kernel_rfl, ?_⟩) (by assumption) ?_
    rotate_left
    · intro wS hSw
      (try dsimp only at hSw)
      go_simp
      try (with_reducible rfl)
    try simp only [List.getElem_toArray, List.getElem_cons_succ, List.getElem_cons_zero, Act.put, List.setIfInBounds_toArray, List.set_cons_zero, List.set_cons_succ]
    refine wpAnyH_ready (rs := [4, 8]) (by kernel_rfl) (by simp) ?_
    refine AllReadyH.cons rfl (fun K hK => ?_) (AllReadyH.cons rfl (fun K hK => ?_) (AllReadyH.nil))
    · go_simp
      go_at_call 58
      refine (num_x _ 4 wd (by decide)).mono ?_
      rintro e w15 ⟨v15, rfl, ho, hb⟩
      (try rw [HWR.out] at ho)
      have HBw15 : Hid (Below W0.heap.size W0 w15) := HDR.out.trans (hb.mono HDR.out.size)
      have HMw15 : Hid (MineX w15 wd.heap.size v15 4 (Bson.leI ((xs.size : Int) + 1) 4)) := ⟨ho, leI_oct _ _, hb.size⟩
      have HBSw15 : Hid (W0.heap.size ≤ wd.heap.size) := HDR.out.size
      have hfw15 := HS0.out.keep HBw15.out
      unfold SixIs at hfw15
      clear ho hb
      refine hK.out _ _ (by exact hfw15) (fun hHeld => ?_)
      clear hK K
      try simp only [List.getElem_toArray, List.getElem_cons_succ, List.getElem_cons_zero, Act.put, List.setIfInBounds_toArray, List.set_cons_zero, List.set_cons_succ]
      refine wpAnyH_ready (rs := [7, 8]) (by kernel_rfl) (by simp) ?_
      refine AllReadyH.cons rfl (fun K hK => ?_) (AllReadyH.cons rfl (fun K hK => ?_) (AllReadyH.nil))
      · obtain ⟨ho1, hoct1, hbs1⟩ := HMw15.out
        refine step_append_str rfl (.tmp 68) (.tmp 70) 22 9 rfl (wd.heap.size) 5 i0 Tryd.underlying22 Tryd.underlying9 hi hz0 hz1 hz2 v15 4 (u8s (Bson.leI ((xs.size : Int) + 1) 4)) rfl ho1 xs rfl (by unfold maxLen; omega) (by omega) hbs1 ?_
        intro v16 w16 ho hg
        have HBw16 : Hid (Below W0.heap.size W0 w16) := HBw15.out.grown hg HBw15.out.size (fun j hj => Nat.le_trans HBSw15.out (owns_block ho1 hj).1)
        have HMw16 : Hid (MineX w16 (wd.heap.size) v16 (4 + xs.size) ((Bson.leI ((xs.size : Int) + 1) 4) ++ Bson.bytes xs)) := MineX.str ho hoct1 (Nat.le_trans hbs1 hg.size)
        have hfw16 := HS0.out.keep HBw16.out
        unfold SixIs at hfw16
        clear ho hg ho1 hoct1 hbs1
        refine hK.out _ _ (by exact hfw16) (fun hHeld => ?_)
        clear hK K
        try simp only [List.getElem_toArray, List.getElem_cons_succ, List.getElem_cons_zero, Act.put, List.setIfInBounds_toArray, List.set_cons_zero, List.set_cons_succ]
        refine wpAnyH_ready (rs := [8]) (by kernel_rfl) (by simp) ?_
        refine AllReadyH.cons rfl (fun K hK => ?_) (AllReadyH.nil)
        go_simp
        have HBw17 : Hid (Below W0.heap.size W0 (w16.alloc (.cells #[.int .u8 0] 5))) := HBw16.out.alloc HBw16.out.size _
        have HNw17 : Hid (NoughtAt (w16.alloc (.cells #[.int .u8 0] 5)) w16.heap.size) := NoughtAt.new w16 _
        have HMw17 : Hid (MineX (w16.alloc (.cells #[.int .u8 0] 5)) (wd.heap.size) v16 (4 + xs.size) ((Bson.leI ((xs.size : Int) + 1) 4) ++ Bson.bytes xs)) := HMw16.out.below ((Below.refl _ _).alloc (Nat.le_refl _) _)
        have HDw17 : Hid (∀ g, v16.ownBlock = some g → g ≠ w16.heap.size) := fun g hg e => by obtain ⟨h1, _, _⟩ := HMw16.out; have := (owns_block h1 hg).2; omega
        have HNSw17 : Hid (W0.heap.size ≤ w16.heap.size) := HBw16.out.size
        generalize w16.alloc (.cells #[.int .u8 0] 5) = w17 at *
        have hfw17 := HS0.out.keep HBw17.out
        unfold SixIs at hfw17
        refine hK.out _ _ (by exact hfw17) (fun hHeld => ?_)
        clear hK K
        try simp only [List.getElem_toArray, List.getElem_cons_succ, List.getElem_cons_zero, Act.put, List.setIfInBounds_toArray, List.set_cons_zero, List.set_cons_succ]
        refine wpAnyH_ready (rs := [9]) (by kernel_rfl) (by simp) ?_
        refine AllReadyH.cons rfl (fun K hK => ?_) (AllReadyH.nil)
        obtain ⟨ho1, hoct1, hbs1⟩ := HMw17.out
        refine step_append_src rfl (.tmp 71) (.tmp 72) 22 rfl (wd.heap.size) 5 i0 (.int .u8 0) 1 1 Tryd.underlying22 hi hz0 hz1 hz2 rfl (by decide) v16 (4 + xs.size) (u8s ((Bson.leI ((xs.size : Int) + 1) 4) ++ Bson.bytes xs)) rfl ho1 (some ⟨w16.heap.size, 0, none⟩) 1 1 (u8s [0]) rfl ⟨fun e => (by cases e), fun ad e => (by cases e; exact HNw17.out.reads)⟩ rfl (fun u hu => by simp [u8s] at hu; subst hu; rfl) (by unfold maxLen; omega) (by omega) hbs1 ?_
        intro v18 w18 ho hg
        have HBw18 : Hid (Below W0.heap.size W0 w18) := HBw17.out.grown hg HBw17.out.size (fun j hj => Nat.le_trans HBSw15.out (owns_block ho1 hj).1)
        have HMw18 : Hid (MineX w18 (wd.heap.size) v18 (4 + xs.size + 1) (((Bson.leI ((xs.size : Int) + 1) 4) ++ Bson.bytes xs) ++ [0])) := MineX.more ho hoct1 oct_nought (Nat.le_trans hbs1 hg.size)
        have hfw18 := HS0.out.keep HBw18.out
        unfold SixIs at hfw18
        clear ho hg ho1 hoct1 hbs1
        refine hK.out _ _ (by exact hfw18) (fun hHeld => ?_)
        clear hK K
        try simp only [List.getElem_toArray, List.getElem_cons_succ, List.getElem_cons_zero, Act.put, List.setIfInBounds_toArray, List.set_cons_zero, List.set_cons_succ]
        refine wpAnyH_ready (rs := [11]) (by kernel_rfl) (by simp) ?_
        refine AllReadyH.cons rfl (fun K hK => ?_) (AllReadyH.nil)
        go_simp
        go_at_call 57
        refine (HBARE.out w18 (VIn.keep HBw18.out HV0.out)).mono ?_
        rintro e w19 ⟨rfl, hb⟩
        have HBw19 : Hid (Below W0.heap.size W0 w19) := HBw18.out.trans (hb.mono HBw18.out.size)
        have HMw19 : Hid (MineX w19 (wd.heap.size) v18 (4 + xs.size + 1) (((Bson.leI ((xs.size : Int) + 1) 4) ++ Bson.bytes xs) ++ [0])) := HMw18.out.below hb
        have hfw19 := HS0.out.keep HBw19.out
        unfold SixIs at hfw19
        clear hb
        refine hK.out _ _ (by exact hfw19) (fun hHeld => ?_)
        clear hK K
        try simp only [List.getElem_toArray, List.getElem_cons_succ, List.getElem_cons_zero, Act.put, List.setIfInBounds_toArray, List.set_cons_zero, List.set_cons_succ]
        refine wpAnyH_take (i := 12) (v := ?_) rfl (by kernel_rfl) (by kernel_rfl) (by kernel_rfl) (fun _ _ _ h => h) (Or.inl ⟨by kernel_rfl, ?_⟩) (by assumption) ?_
        rotate_left
        · intro wS hSw
          (try dsimp only at hSw)
          go_simp
          try (with_reducible rfl)
        try simp only [List.getElem_toArray, List.getElem_cons_succ, List.getElem_cons_zero, Act.put, List.setIfInBounds_toArray, List.set_cons_zero, List.set_cons_succ]
        refine wpAnyH_take (i := 13) (v := ?_) rfl (by kernel_rfl) (by kernel_rfl) (by kernel_rfl) (fun _ _ _ h => h) (Or.inl ⟨by kernel_rfl, ?_⟩) (by assumption) ?_
        rotate_left
        · intro wS hSw
          (try dsimp only at hSw)
          go_simp
          try (with_reducible rfl)
        try simp only [List.getElem_toArray, List.getElem_cons_succ, List.getElem_cons_zero, Act.put, List.setIfInBounds_toArray, List.set_cons_zero, List.set_cons_succ]
        refine wpAnyH_take (i := 14) (v := ?_) rfl (by kernel_rfl) (by kernel_rfl) (by kernel_rfl) (fun _ _ _ h => h) (Or.inl ⟨by kernel_rfl, ?_⟩) (by assumption) ?_
        rotate_left
        · intro wS hSw
          (try dsimp only at hSw)
          go_simp
          try (with_reducible rfl)
        try simp only [List.getElem_toArray, List.getElem_cons_succ, List.getElem_cons_zero, Act.put, List.setIfInBounds_toArray, List.set_cons_zero, List.set_cons_succ]
        refine wpAnyH_ready (rs := [15]) (by kernel_rfl) (by simp) ?_
        refine AllReadyH.cons rfl (fun K hK => ?_) (AllReadyH.nil)
        go_simp
        go_at_call 46
        refine (HUTF.out w19 HBw19.out).mono ?_
        rintro e w20 ⟨rfl, hb⟩
        have HBw20 : Hid (Below W0.heap.size W0 w20) := HBw19.out.trans (hb.mono HBw19.out.size)
        have HMw20 : Hid (MineX w20 (wd.heap.size) v18 (4 + xs.size + 1) (((Bson.leI ((xs.size : Int) + 1) 4) ++ Bson.bytes xs) ++ [0])) := HMw19.out.below hb
        have hfw20 := HS0.out.keep HBw20.out
        unfold SixIs at hfw20
        clear hb
        refine hK.out _ _ (by exact hfw20) (fun hHeld => ?_)
        clear hK K
        try simp only [List.getElem_toArray, List.getElem_cons_succ, List.getElem_cons_zero, Act.put, List.setIfInBounds_toArray, List.set_cons_zero, List.set_cons_succ]
        refine wpAnyH_take (i := 17) (v := ?_) rfl (by kernel_rfl) (by kernel_rfl) (by kernel_rfl) (fun _ _ _ h => h) (Or.inl ⟨by kernel_rfl, ?_⟩) (by assumption) ?_
        rotate_left
        · intro wS hSw
          (try dsimp only at hSw)
          go_simp
          try (with_reducible rfl)
        try simp only [List.getElem_toArray, List.getElem_cons_succ, List.getElem_cons_zero, Act.put, List.setIfInBounds_toArray, List.set_cons_zero, List.set_cons_succ]
        refine wpAnyH_take (i := 16) (v := ?_) rfl (by kernel_rfl) (by kernel_rfl) (by kernel_rfl) (fun _ _ _ h => h) (Or.inl ⟨by kernel_rfl, ?_⟩) (by assumption) ?_
        rotate_left
        · intro wS hSw
          (try dsimp only at hSw)
          go_simp
          try (with_reducible rfl)
        try simp only [List.getElem_toArray, List.getElem_cons_succ, List.getElem_cons_zero, Act.put, List.setIfInBounds_toArray, List.set_cons_zero, List.set_cons_succ]
        refine wpAnyH_take (i := 18) (v := ?_) rfl (by kernel_rfl) (by kernel_rfl) (by kernel_rfl) (fun _ _ _ h => h) (Or.inl ⟨by kernel_rfl, ?_⟩) (by assumption) ?_
        rotate_left
        · intro wS hSw
          (try dsimp only at hSw)
          go_simp
          try (with_reducible rfl)
        try simp only [List.getElem_toArray, List.getElem_cons_succ, List.getElem_cons_zero, Act.put, List.setIfInBounds_toArray, List.set_cons_zero, List.set_cons_succ]
        refine wpAnyH_done (by kernel_rfl) ?_ _
        go_wp2_with fail
        refine bodyPost_ret (v := .tuple #[v18, .bool _]) (by simp [results, Tryd.results29, go_sem]; rfl) rfl ?_
        exact ⟨_, _, _, rfl, (HMw20.out.bytes (Nat.le_trans HB0.out.size HBSw15.out)).mono (fun g hg => .inr hg), sc_text2 HKX.out.1 HKX.out.2 HBE.out, HB0.out.trans (HBw20.out.mono HB0.out.size)⟩
      · go_simp
        have HBw21 : Hid (Below W0.heap.size W0 (w15.alloc (.cells #[.int .u8 0] 5))) := HBw15.out.alloc HBw15.out.size _
        have HNw21 : Hid (NoughtAt (w15.alloc (.cells #[.int .u8 0] 5)) w15.heap.size) := NoughtAt.new w15 _
        have HMw21 : Hid (MineX (w15.alloc (.cells #[.int .u8 0] 5)) (wd.heap.size) v15 (4) (Bson.leI ((xs.size : Int) + 1) 4)) := HMw15.out.below ((Below.refl _ _).alloc (Nat.le_refl _) _)
        have HDw21 : Hid (∀ g, v15.ownBlock = some g → g ≠ w15.heap.size) := fun g hg e => by obtain ⟨h1, _, _⟩ := HMw15.out; have := (owns_block h1 hg).2; omega
        have HNSw21 : Hid (W0.heap.size ≤ w15.heap.size) := HBw15.out.size
        generalize w15.alloc (.cells #[.int .u8 0] 5) = w21 at *
        have hfw21 := HS0.out.keep HBw21.out
        unfold SixIs at hfw21
        refine hK.out _ _ (by exact hfw21) (fun hHeld => ?_)
        clear hK K
        try simp only [List.getElem_toArray, List.getElem_cons_succ, List.getElem_cons_zero, Act.put, List.setIfInBounds_toArray, List.set_cons_zero, List.set_cons_succ]
        refine wpAnyH_ready (rs := [7]) (by kernel_rfl) (by simp) ?_
        refine AllReadyH.cons rfl (fun K hK => ?_) (AllReadyH.nil)
        obtain ⟨ho1, hoct1, hbs1⟩ := HMw21.out
        refine step_append_str rfl (.tmp 68) (.tmp 70) 22 9 rfl (wd.heap.size) 5 i0 Tryd.underlying22 Tryd.underlying9 hi hz0 hz1 hz2 v15 4 (u8s (Bson.leI ((xs.size : Int) + 1) 4)) rfl ho1 xs rfl (by unfold maxLen; omega) (by omega) hbs1 ?_
        intro v22 w22 ho hg
        have HBw22 : Hid (Below W0.heap.size W0 w22) := HBw21.out.grown hg HBw21.out.size (fun j hj => Nat.le_trans HBSw15.out (owns_block ho1 hj).1)
        have HMw22 : Hid (MineX w22 (wd.heap.size) v22 (4 + xs.size) ((Bson.leI ((xs.size : Int) + 1) 4) ++ Bson.bytes xs)) := MineX.str ho hoct1 (Nat.le_trans hbs1 hg.size)
        have HNw22 : Hid (NoughtAt w22 (w15.heap.size)) := ⟨Nat.lt_of_lt_of_le HNw21.out.1 hg.size, hg.cell HNw21.out.2 (fun e => HDw21.out _ e.symm rfl)⟩
        have hfw22 := HS0.out.keep HBw22.out
        unfold SixIs at hfw22
        clear ho hg ho1 hoct1 hbs1
        refine hK.out _ _ (by exact hfw22) (fun hHeld => ?_)
        clear hK K
        try simp only [List.getElem_toArray, List.getElem_cons_succ, List.getElem_cons_zero, Act.put, List.setIfInBounds_toArray, List.set_cons_zero, List.set_cons_succ]
        refine wpAnyH_ready (rs := [9]) (by kernel_rfl) (by simp) ?_
        refine AllReadyH.cons rfl (fun K hK => ?_) (AllReadyH.nil)
        obtain ⟨ho1, hoct1, hbs1⟩ := HMw22.out
        refine step_append_src rfl (.tmp 71) (.tmp 72) 22 rfl (wd.heap.size) 5 i0 (.int .u8 0) 1 1 Tryd.underlying22 hi hz0 hz1 hz2 rfl (by decide) v22 (4 + xs.size) (u8s ((Bson.leI ((xs.size : Int) + 1) 4) ++ Bson.bytes xs)) rfl ho1 (some ⟨w15.heap.size, 0, none⟩) 1 1 (u8s [0]) rfl ⟨fun e => (by cases e), fun ad e => (by cases e; exact HNw22.out.reads)⟩ rfl (fun u hu => by simp [u8s] at hu; subst hu; rfl) (by unfold maxLen; omega) (by omega) hbs1 ?_
        intro v23 w23 ho hg
        have HBw23 : Hid (Below W0.heap.size W0 w23) := HBw22.out.grown hg HBw22.out.size (fun j hj => Nat.le_trans HBSw15.out (owns_block ho1 hj).1)
        have HMw23 : Hid (MineX w23 (wd.heap.size) v23 (4 + xs.size + 1) (((Bson.leI ((xs.size : Int) + 1) 4) ++ Bson.bytes xs) ++ [0])) := MineX.more ho hoct1 oct_nought (Nat.le_trans hbs1 hg.size)
        have hfw23 := HS0.out.keep HBw23.out
        unfold SixIs at hfw23
        clear ho hg ho1 hoct1 hbs1
        refine hK.out _ _ (by exact hfw23) (fun hHeld => ?_)
        clear hK K
        try simp only [List.getElem_toArray, List.getElem_cons_succ, List.getElem_cons_zero, Act.put, List.setIfInBounds_toArray, List.set_cons_zero, List.set_cons_succ]
        refine wpAnyH_ready (rs := [11]) (by kernel_rfl) (by simp) ?_
        refine AllReadyH.cons rfl (fun K hK => ?_) (AllReadyH.nil)
        go_simp
        go_at_call 57
        refine (HBARE.out w23 (VIn.keep HBw23.out HV0.out)).mono ?_
        rintro e w24 ⟨rfl, hb⟩
        have HBw24 : Hid (Below W0.heap.size W0 w24) := HBw23.out.trans (hb.mono HBw23.out.size)
        have HMw24 : Hid (MineX w24 (wd.heap.size) v23 (4 + xs.size + 1) (((Bson.leI ((xs.size : Int) + 1) 4) ++ Bson.bytes xs) ++ [0])) := HMw23.out.below hb
        have hfw24 := HS0.out.keep HBw24.out
        unfold SixIs at hfw24
        clear hb
        refine hK.out _ _ (by exact hfw24) (fun hHeld => ?_)
        clear hK K
        try simp only [List.getElem_toArray, List.getElem_cons_succ, List.getElem_cons_zero, Act.put, List.setIfInBounds_toArray, List.set_cons_zero, List.set_cons_succ]
        refine wpAnyH_take (i := 12) (v := ?_) rfl (by kernel_rfl) (by kernel_rfl) (by kernel_rfl) (fun _ _ _ h => h) (Or.inl ⟨by kernel_rfl, ?_⟩) (by assumption) ?_
        rotate_left
        · intro wS hSw
          (try dsimp only at hSw)
          go_simp
          try (with_reducible rfl)
        try simp only [List.getElem_toArray, List.getElem_cons_succ, List.getElem_cons_zero, Act.put, List.setIfInBounds_toArray, List.set_cons_zero, List.set_cons_succ]
        refine wpAnyH_take (i := 13) (v := ?_) rfl (by kernel_rfl) (by kernel_rfl) (by kernel_rfl) (fun _ _ _ h => h) (Or.inl ⟨by kernel_rfl, ?_⟩) (by assumption) ?_
        rotate_left
        · intro wS hSw
          (try dsimp only at hSw)
          go_simp
          try (with_reducible rfl)
        try simp only [List.getElem_toArray, List.getElem_cons_succ, List.getElem_cons_zero, Act.put, List.setIfInBounds_toArray, List.set_cons_zero, List.set_cons_succ]
        refine wpAnyH_take (i := 14) (v := ?_) rfl (by kernel_rfl) (by kernel_rfl) (by kernel_rfl) (fun _ _ _ h => h) (Or.inl ⟨by kernel_rfl, ?_⟩) (by assumption) ?_
        rotate_left
        · intro wS hSw
          (try dsimp only at hSw)
          go_simp
          try (with_reducible rfl)
        try simp only [List.getElem_toArray, List.getElem_cons_succ, List.getElem_cons_zero, Act.put, List.setIfInBounds_toArray, List.set_cons_zero, List.set_cons_succ]
        refine wpAnyH_ready (rs := [15]) (by kernel_rfl) (by simp) ?_
        refine AllReadyH.cons rfl (fun K hK => ?_) (AllReadyH.nil)
        go_simp
        go_at_call 46
        refine (HUTF.out w24 HBw24.out).mono ?_
        rintro e w25 ⟨rfl, hb⟩
        have HBw25 : Hid (Below W0.heap.size W0 w25) := HBw24.out.trans (hb.mono HBw24.out.size)
        have HMw25 : Hid (MineX w25 (wd.heap.size) v23 (4 + xs.size + 1) (((Bson.leI ((xs.size : Int) + 1) 4) ++ Bson.bytes xs) ++ [0])) := HMw24.out.below hb
        have hfw25 := HS0.out.keep HBw25.out
        unfold SixIs at hfw25
        clear hb
        refine hK.out _ _ (by exact hfw25) (fun hHeld => ?_)
        clear hK K
        try simp only [List.getElem_toArray, List.getElem_cons_succ, List.getElem_cons_zero, Act.put, List.setIfInBounds_toArray, List.set_cons_zero, List.set_cons_succ]
        refine wpAnyH_take (i := 17) (v := ?_) rfl (by kernel_rfl) (by kernel_rfl) (by kernel_rfl) (fun _ _ _ h => h) (Or.inl ⟨by kernel_rfl, ?_⟩) (by assumption) ?_
        rotate_left
        · intro wS hSw
          (try dsimp only at hSw)
          go_simp
          try (with_reducible rfl)
        try simp only [List.getElem_toArray, List.getElem_cons_succ, List.getElem_cons_zero, Act.put, List.setIfInBounds_toArray, List.set_cons_zero, List.set_cons_succ]
        refine wpAnyH_take (i := 16) (v := ?_) rfl (by kernel_rfl) (by kernel_rfl) (by kernel_rfl) (fun _ _ _ h => h) (Or.inl ⟨by kernel_rfl, ?_⟩) (by assumption) ?_
        rotate_left
        · intro wS hSw
          (try dsimp only at hSw)
          go_simp
          try (with_reducible rfl)
        try simp only [List.getElem_toArray, List.getElem_cons_succ, List.getElem_cons_zero, Act.put, List.setIfInBounds_toArray, List.set_cons_zero, List.set_cons_succ]
        refine wpAnyH_take (i := 18) (v := ?_) rfl (by kernel_rfl) (by kernel_rfl) (by kernel_rfl) (fun _ _ _ h => h) (Or.inl ⟨by kernel_rfl, ?_⟩) (by assumption) ?_
        rotate_left
        · intro wS hSw
          (try dsimp only at hSw)
          go_simp
          try (with_reducible rfl)
        try simp only [List.getElem_toArray, List.getElem_cons_succ, List.getElem_cons_zero, Act.put, List.setIfInBounds_toArray, List.set_cons_zero, List.set_cons_succ]
        refine wpAnyH_done (by kernel_rfl) ?_ _
        go_wp2_with fail
        refine bodyPost_ret (v := .tuple #[v23, .bool _]) (by simp [results, Tryd.results29, go_sem]; rfl) rfl ?_
        exact ⟨_, _, _, rfl, (HMw25.out.bytes (Nat.le_trans HB0.out.size HBSw15.out)).mono (fun g hg => .inr hg), sc_text2 HKX.out.1 HKX.out.2 HBE.out, HB0.out.trans (HBw25.out.mono HB0.out.size)⟩
    · go_simp
      have HBw26 : Hid (Below W0.heap.size W0 (wd.alloc (.cells #[.int .u8 0] 5))) := HDR.out.alloc HDR.out.size _
      have HNw26 : Hid (NoughtAt (wd.alloc (.cells #[.int .u8 0] 5)) wd.heap.size) := NoughtAt.new wd _
      have HNSw26 : Hid (W0.heap.size ≤ wd.heap.size) := HDR.out.size
      generalize wd.alloc (.cells #[.int .u8 0] 5) = w26 at *
      have hfw26 := HS0.out.keep HBw26.out
      unfold SixIs at hfw26
      refine hK.out _ _ (by exact hfw26) (fun hHeld => ?_)
      clear hK K
      try simp only [List.getElem_toArray, List.getElem_cons_succ, List.getElem_cons_zero, Act.put, List.setIfInBounds_toArray, List.set_cons_zero, List.set_cons_succ]
      refine wpAnyH_ready (rs := [4]) (by kernel_rfl) (by simp) ?_
      refine AllReadyH.cons rfl (fun K hK => ?_) (AllReadyH.nil)
      go_simp
      go_at_call 58
      refine (num_x _ 4 w26 (by decide)).mono ?_
      rintro e w27 ⟨v27, rfl, ho, hb⟩
      (try rw [HWR.out] at ho)
      have HBw27 : Hid (Below W0.heap.size W0 w27) := HBw26.out.trans (hb.mono HBw26.out.size)
      have HMw27 : Hid (MineX w27 w26.heap.size v27 4 (Bson.leI ((xs.size : Int) + 1) 4)) := ⟨ho, leI_oct _ _, hb.size⟩
      have HNw27 : Hid (NoughtAt w27 wd.heap.size) := HNw26.out.keep hb
      have HDw27 : Hid (∀ g, v27.ownBlock = some g → g ≠ wd.heap.size) := fun g hg e => by have := (owns_block ho hg).1; have := HNw26.out.1; omega
      have HBSw27 : Hid (W0.heap.size ≤ w26.heap.size) := HBw26.out.size
      have hfw27 := HS0.out.keep HBw27.out
      unfold SixIs at hfw27
      clear ho hb
      refine hK.out _ _ (by exact hfw27) (fun hHeld => ?_)
      clear hK K
      try simp only [List.getElem_toArray, List.getElem_cons_succ, List.getElem_cons_zero, Act.put, List.setIfInBounds_toArray, List.set_cons_zero, List.set_cons_succ]
      refine wpAnyH_ready (rs := [7]) (by kernel_rfl) (by simp) ?_
      refine AllReadyH.cons rfl (fun K hK => ?_) (AllReadyH.nil)
      obtain ⟨ho1, hoct1, hbs1⟩ := HMw27.out
      refine step_append_str rfl (.tmp 68) (.tmp 70) 22 9 rfl (w26.heap.size) 5 i0 Tryd.underlying22 Tryd.underlying9 hi hz0 hz1 hz2 v27 4 (u8s (Bson.leI ((xs.size : Int) + 1) 4)) rfl ho1 xs rfl (by unfold maxLen; omega) (by omega) hbs1 ?_
      intro v28 w28 ho hg
      have HBw28 : Hid (Below W0.heap.size W0 w28) := HBw27.out.grown hg HBw27.out.size (fun j hj => Nat.le_trans HBSw27.out (owns_block ho1 hj).1)
      have HMw28 : Hid (MineX w28 (w26.heap.size) v28 (4 + xs.size) ((Bson.leI ((xs.size : Int) + 1) 4) ++ Bson.bytes xs)) := MineX.str ho hoct1 (Nat.le_trans hbs1 hg.size)
      have HNw28 : Hid (NoughtAt w28 (wd.heap.size)) := ⟨Nat.lt_of_lt_of_le HNw27.out.1 hg.size, hg.cell HNw27.out.2 (fun e => HDw27.out _ e.symm rfl)⟩
      have hfw28 := HS0.out.keep HBw28.out
      unfold SixIs at hfw28
      clear ho hg ho1 hoct1 hbs1
      refine hK.out _ _ (by exact hfw28) (fun hHeld => ?_)
      clear hK K
      try simp only [List.getElem_toArray, List.getElem_cons_succ, List.getElem_cons_zero, Act.put, List.setIfInBounds_toArray, List.set_cons_zero, List.set_cons_succ]
      refine wpAnyH_ready (rs := [9]) (by kernel_rfl) (by simp) ?_
      refine AllReadyH.cons rfl (fun K hK => ?_) (AllReadyH.nil)
      obtain ⟨ho1, hoct1, hbs1⟩ := HMw28.out
      refine step_append_src rfl (.tmp 71) (.tmp 72) 22 rfl (w26.heap.size) 5 i0 (.int .u8 0) 1 1 Tryd.underlying22 hi hz0 hz1 hz2 rfl (by decide) v28 (4 + xs.size) (u8s ((Bson.leI ((xs.size : Int) + 1) 4) ++ Bson.bytes xs)) rfl ho1 (some ⟨wd.heap.size, 0, none⟩) 1 1 (u8s [0]) rfl ⟨fun e => (by cases e), fun ad e => (by cases e; exact HNw28.out.reads)⟩ rfl (fun u hu => by simp [u8s] at hu; subst hu; rfl) (by unfold maxLen; omega) (by omega) hbs1 ?_
      intro v29 w29 ho hg
      have HBw29 : Hid (Below W0.heap.size W0 w29) := HBw28.out.grown hg HBw28.out.size (fun j hj => Nat.le_trans HBSw27.out (owns_block ho1 hj).1)
      have HMw29 : Hid (MineX w29 (w26.heap.size) v29 (4 + xs.size + 1) (((Bson.leI ((xs.size : Int) + 1) 4) ++ Bson.bytes xs) ++ [0])) := MineX.more ho hoct1 oct_nought (Nat.le_trans hbs1 hg.size)
      have hfw29 := HS0.out.keep HBw29.out
      unfold SixIs at hfw29
      clear ho hg ho1 hoct1 hbs1
      refine hK.out _ _ (by exact hfw29) (fun hHeld => ?_)
      clear hK K
      try simp only [List.getElem_toArray, List.getElem_cons_succ, List.getElem_cons_zero, Act.put, List.setIfInBounds_toArray, List.set_cons_zero, List.set_cons_succ]
      refine wpAnyH_ready (rs := [11]) (by kernel_rfl) (by simp) ?_
      refine AllReadyH.cons rfl (fun K hK => ?_) (AllReadyH.nil)
      go_simp
      go_at_call 57
      refine (HBARE.out w29 (VIn.keep HBw29.out HV0.out)).mono ?_
      rintro e w30 ⟨rfl, hb⟩
      have HBw30 : Hid (Below W0.heap.size W0 w30) := HBw29.out.trans (hb.mono HBw29.out.size)
      have HMw30 : Hid (MineX w30 (w26.heap.size) v29 (4 + xs.size + 1) (((Bson.leI ((xs.size : Int) + 1) 4) ++ Bson.bytes xs) ++ [0])) := HMw29.out.below hb
      have hfw30 := HS0.out.keep HBw30.out
      unfold SixIs at hfw30
      clear hb
      refine hK.out _ _ (by exact hfw30) (fun hHeld => ?_)
      clear hK K
      try simp only [List.getElem_toArray, List.getElem_cons_succ, List.getElem_cons_zero, Act.put, List.setIfInBounds_toArray, List.set_cons_zero, List.set_cons_succ]
      refine wpAnyH_take (i := 12) (v := ?_) rfl (by kernel_rfl) (by kernel_rfl) (by kernel_rfl) (fun _ _ _ h => h) (Or.inl ⟨by kernel_rfl, ?_⟩) (by assumption) ?_
      rotate_left
      · intro wS hSw
        (try dsimp only at hSw)
        go_simp
        try (with_reducible rfl)
      try simp only [List.getElem_toArray, List.getElem_cons_succ, List.getElem_cons_zero, Act.put, List.setIfInBounds_toArray, List.set_cons_zero, List.set_cons_succ]
      refine wpAnyH_take (i := 13) (v := ?_) rfl (by kernel_rfl) (by kernel_rfl) (by kernel_rfl) (fun _ _ _ h => h) (Or.inl ⟨by kernel_rfl, ?_⟩) (by assumption) ?_
      rotate_left
      · intro wS hSw
        (try dsimp only at hSw)
        go_simp
        try (with_reducible rfl)
      try simp only [List.getElem_toArray, List.getElem_cons_succ, List.getElem_cons_zero, Act.put, List.setIfInBounds_toArray, List.set_cons_zero, List.set_cons_succ]
      refine wpAnyH_take (i := 14) (v := ?_) rfl (by kernel_rfl) (by kernel_rfl) (by kernel_rfl) (fun _ _ _ h => h) (Or.inl ⟨by kernel_rfl, ?_⟩) (by assumption) ?_
      rotate_left
      · intro wS hSw
        (try dsimp only at hSw)
        go_simp
        try (with_reducible rfl)
      try simp only [List.getElem_toArray, List.getElem_cons_succ, List.getElem_cons_zero, Act.put, List.setIfInBounds_toArray, List.set_cons_zero, List.set_cons_succ]
      refine wpAnyH_ready (rs := [15]) (by kernel_rfl) (by simp) ?_
      refine AllReadyH.cons rfl (fun K hK => ?_) (AllReadyH.nil)
      go_simp
      go_at_call 46
      refine (HUTF.out w30 HBw30.out).mono ?_
      rintro e w31 ⟨rfl, hb⟩
      have HBw31 : Hid (Below W0.heap.size W0 w31) := HBw30.out.trans (hb.mono HBw30.out.size)
      have HMw31 : Hid (MineX w31 (w26.heap.size) v29 (4 + xs.size + 1) (((Bson.leI ((xs.size : Int) + 1) 4) ++ Bson.bytes xs) ++ [0])) := HMw30.out.below hb
      have hfw31 := HS0.out.keep HBw31.out
      unfold SixIs at hfw31
      clear hb
      refine hK.out _ _ (by exact hfw31) (fun hHeld => ?_)
      clear hK K
      try simp only [List.getElem_toArray, List.getElem_cons_succ, List.getElem_cons_zero, Act.put, List.setIfInBounds_toArray, List.set_cons_zero, List.set_cons_succ]
      refine wpAnyH_take (i := 17) (v := ?_) rfl (by kernel_rfl) (by kernel_rfl) (by kernel_rfl) (fun _ _ _ h => h) (Or.inl ⟨by kernel_rfl, ?_⟩) (by assumption) ?_
      rotate_left
      · intro wS hSw
        (try dsimp only at hSw)
        go_simp
        try (with_reducible rfl)
      try simp only [List.getElem_toArray, List.getElem_cons_succ, List.getElem_cons_zero, Act.put, List.setIfInBounds_toArray, List.set_cons_zero, List.set_cons_succ]
      refine wpAnyH_take (i := 16) (v := ?_) rfl (by kernel_rfl) (by kernel_rfl) (by kernel_rfl) (fun _ _ _ h => h) (Or.inl ⟨by kernel_rfl, ?_⟩) (by assumption) ?_
      rotate_left
      · intro wS hSw
        (try dsimp only at hSw)
        go_simp
        try (with_reducible rfl)
      try simp only [List.getElem_toArray, List.getElem_cons_succ, List.getElem_cons_zero, Act.put, List.setIfInBounds_toArray, List.set_cons_zero, List.set_cons_succ]
      refine wpAnyH_take (i := 18) (v := ?_) rfl (by kernel_rfl) (by kernel_rfl) (by kernel_rfl) (fun _ _ _ h => h) (Or.inl ⟨by kernel_rfl, ?_⟩) (by assumption) ?_
      rotate_left
      · intro wS hSw
        (try dsimp only at hSw)
        go_simp
        try (with_reducible rfl)
      try simp only [List.getElem_toArray, List.getElem_cons_succ, List.getElem_cons_zero, Act.put, List.setIfInBounds_toArray, List.set_cons_zero, List.set_cons_succ]
      refine wpAnyH_done (by kernel_rfl) ?_ _
      go_wp2_with fail
      refine bodyPost_ret (v := .tuple #[v29, .bool _]) (by simp [results, Tryd.results29, go_sem]; rfl) rfl ?_
      exact ⟨_, _, _, rfl, (HMw31.out.bytes (Nat.le_trans HB0.out.size HBSw27.out)).mono (fun g hg => .inr hg), sc_text2 HKX.out.1 HKX.out.2 HBE.out, HB0.out.trans (HBw31.out.mono HB0.out.size)⟩
set_option maxRecDepth 100000 in
set_option maxHeartbeats 2000000 in
theorem ownx_bytes (Q : Nat → Prop) (h : Nat) (x : Val) (u : Value) (w : World) (d : Int) (hk : x.kind = 8) (hv : VIn w Q (h + 1) x u) (hsm : x.b.length ≤ 60000) :
    Calls Tryd.prog 29 #[u, .int .i64 d] w (OwnX Q w (Bson.scalar x)) := by
  obtain ⟨xk, xn, xs, ba, fa, la, bn, bc, fn, fc, ln, lc, rfl, hxk, hxn, hxs, hbn, hfn, hln, hL, hF, hI⟩ := hv.letters
  obtain rfl : xk = 8 := by rw [hxk, hk]
  have HV0 : Hid (VIn (w.alloc (.cells #[.int .i64 8, .int .i64 xn, .string xs, .slice ba bn bc, .slice fa fn fc, .slice la ln lc] 27)) Q (h + 1) x (.agg #[.int .i64 8, .int .i64 xn, .string xs, .slice ba bn bc, .slice fa fn fc, .slice la ln lc])) := VIn.keep ((Below.refl _ w).alloc (Nat.le_refl _) _) hv
  have HB0 : Hid (Below w.heap.size w (w.alloc (.cells #[.int .i64 8, .int .i64 xn, .string xs, .slice ba bn bc, .slice fa fn fc, .slice la ln lc] 27))) := (Below.refl _ w).alloc (Nat.le_refl _) _
  have hS := SixIs.new w (.int .i64 8) (.int .i64 xn) (.string xs) (.slice ba bn bc) (.slice fa fn fc) (.slice la ln lc) 27
  have HS0 := Lib.hid hS
  have HY : Hid (BytesX w Q (.slice ba bn bc) x.b) := hv.bytes_x
  have hsz : bn ≤ 60000 := by rw [hbn]; exact hsm
  clear hsm
  have HKX := Lib.hid (And.intro hk hbn)
  clear hv hxk hk hS hxn hxs hbn hfn hln hL hF hI
  generalize hW : w.alloc (.cells #[.int .i64 8, .int .i64 xn, .string xs, .slice ba bn bc, .slice fa fn fc, .slice la ln lc] 27) = W0 at *
  obtain ⟨e0, e1, e2, e3, e4, e5⟩ := HS0.out
  have hf : W0.cell? ⟨w.heap.size, 0, none⟩ = some (.int .i64 8) ∧ W0.cell? ⟨w.heap.size, 1, none⟩ = some (.int .i64 xn) ∧ W0.cell? ⟨w.heap.size, 2, none⟩ = some (.string xs) ∧ W0.cell? ⟨w.heap.size, 3, none⟩ = some (.slice ba bn bc) ∧ W0.cell? ⟨w.heap.size, 4, none⟩ = some (.slice fa fn fc) ∧ W0.cell? ⟨w.heap.size, 5, none⟩ = some (.slice la ln lc) := HS0.out
  have HDR : Hid (Below W0.heap.size W0 W0.drew) := (Below.refl _ W0).drew
  obtain ⟨i0, hi, hz0, hz1, hz2⟩ := info_parts infoU8
  obtain ⟨b2, hb2⟩ : ∃ b2, b2 = Bson.bare x false false true false false := ⟨_, rfl⟩
  have HBARE : Hid (∀ wx, VIn wx Q (h + 1) x (.agg #[.int .i64 8, .int .i64 xn, .string xs, .slice ba bn bc, .slice fa fn fc, .slice la ln lc]) → Calls Tryd.prog 57 #[.agg #[.int .i64 8, .int .i64 xn, .string xs, .slice ba bn bc, .slice fa fn fc, .slice la ln lc], .bool false, .bool false, .bool true, .bool false, .bool false] wx fun e w' => e = .returned (.bool b2) ∧ Below wx.heap.size wx w') := fun wx hx => by rw [hb2]; exact bare_some3 Q (h + 1) x _ wx hx
  have HBE := Lib.hid hb2
  clear hb2
  have dz : decide ((65536 : Int) < (bn : Int)) = false := decide_eq_false (by omega)
  go_enter Tryd.func29, Tryd.ntmps29
  go_wp2_with fail
  clear hW
  refine wp_region_held_drew (S := fun W => W.cell? ⟨w.heap.size, 0, none⟩ = some (.int .i64 8) ∧ W.cell? ⟨w.heap.size, 1, none⟩ = some (.int .i64 xn) ∧ W.cell? ⟨w.heap.size, 2, none⟩ = some (.string xs) ∧ W.cell? ⟨w.heap.size, 3, none⟩ = some (.slice ba bn bc) ∧ W.cell? ⟨w.heap.size, 4, none⟩ = some (.slice fa fn fc) ∧ W.cell? ⟨w.heap.size, 5, none⟩ = some (.slice la ln lc)) (by kernel_rfl) (by exact hf) (fun hHeld => ?_)
  generalize W0.drew = wd at *
  refine wpAnyH_take (i := 0) (v := ?_) rfl (by kernel_rfl) (by kernel_rfl) (by kernel_rfl) (fun _ _ _ h => h) (Or.inl ⟨by kernel_rfl, ?_⟩) (by assumption) ?_
  rotate_left
  · intro wS hSw
    (try dsimp only at hSw)
    go_simp
    try (with_reducible rfl)
  try simp only [List.getElem_toArray, List.getElem_cons_zero, Act.put, List.setIfInBounds_toArray, List.set_cons_zero, List.set_cons_succ]
  refine wpAnyH_take (i := 1) (v := ?_) rfl (by kernel_rfl) (by kernel_rfl) (by kernel_rfl) (fun _ _ _ h => h) (Or.inl ⟨by kernel_rfl, ?_⟩) (by assumption) ?_
  rotate_left
  · intro wS hSw
    (try dsimp only at hSw)
    go_simp
    try (with_reducible rfl)
  try simp only [List.getElem_toArray, List.getElem_cons_succ, List.getElem_cons_zero, Act.put, List.setIfInBounds_toArray, List.set_cons_zero, List.set_cons_succ]
  refine wpAnyH_take (i := 2) (v := ?_) rfl (by kernel_rfl) (by kernel_rfl) (by kernel_rfl) (fun _ _ _ h => h) (Or.inl ⟨by kernel_rfl, ?_⟩) (by assumption) ?_
  rotate_left
  · intro wS hSw
    (try dsimp only at hSw)
    go_simp
    try (with_reducible rfl)
  try simp only [List.getElem_toArray, List.getElem_cons_succ, List.getElem_cons_zero, Act.put, List.setIfInBounds_toArray, List.set_cons_zero, List.set_cons_succ]
  refine wpAnyH_take (i := 6) (v := ?_) rfl (by kernel_rfl) (by kernel_rfl) (by kernel_rfl) (fun _ _ _ h => h) (Or.inl ⟨by kernel_rfl, ?_⟩) (by assumption) ?_
  rotate_left
  · intro wS hSw
    (try dsimp only at hSw)
    go_simp
    try (with_reducible rfl)
  try simp only [List.getElem_toArray, List.getElem_cons_succ, List.getElem_cons_zero, Act.put, List.setIfInBounds_toArray, List.set_cons_zero, List.set_cons_succ]
  refine wpAnyH_take (i := 7) (v := ?_) rfl (by kernel_rfl) (by kernel_rfl) (by kernel_rfl) (fun _ _ _ h => h) (Or.inl ⟨by kernel_rfl, ?_⟩) (by assumption) ?_
  rotate_left
  · intro wS hSw
    (try dsimp only at hSw)
    go_simp
    try (with_reducible rfl)
  try simp only [List.getElem_toArray, List.getElem_cons_succ, List.getElem_cons_zero, Act.put, List.setIfInBounds_toArray, List.set_cons_zero, List.set_cons_succ]
  refine wpAnyH_take (i := 9) (v := ?_) rfl (by kernel_rfl) (by kernel_rfl) (by kernel_rfl) (fun _ _ _ h => h) (Or.inl ⟨by kernel_rfl, ?_⟩) (by assumption) ?_
  rotate_left
  · intro wS hSw
    (try dsimp only at hSw)
    go_simp
    try (with_reducible rfl)
  try simp only [List.getElem_toArray, List.getElem_cons_succ, List.getElem_cons_zero, Act.put, List.setIfInBounds_toArray, List.set_cons_zero, List.set_cons_succ]
  refine wpAnyH_ready (rs := [3, 4]) (by kernel_rfl) (by simp) ?_
  refine AllReadyH.cons rfl (fun K hK => ?_) (AllReadyH.cons rfl (fun K hK => ?_) (AllReadyH.nil))
  · go_simp
    go_at_call 58
    refine (num_x _ 4 wd (by decide)).mono ?_
    rintro e w32 ⟨v32, rfl, ho, hb⟩
    have HBw32 : Hid (Below W0.heap.size W0 w32) := HDR.out.trans (hb.mono HDR.out.size)
    have HMw32 : Hid (MineX w32 wd.heap.size v32 4 (Bson.leI (bn : Int) 4)) := ⟨ho, leI_oct _ _, hb.size⟩
    have HBSw32 : Hid (W0.heap.size ≤ wd.heap.size) := HDR.out.size
    have hfw32 := HS0.out.keep HBw32.out
    unfold SixIs at hfw32
    clear ho hb
    refine hK.out _ _ (by exact hfw32) (fun hHeld => ?_)
    clear hK K
    try simp only [List.getElem_toArray, List.getElem_cons_succ, List.getElem_cons_zero, Act.put, List.setIfInBounds_toArray, List.set_cons_zero, List.set_cons_succ]
    refine wpAnyH_ready (rs := [4]) (by kernel_rfl) (by simp) ?_
    refine AllReadyH.cons rfl (fun K hK => ?_) (AllReadyH.nil)
    go_simp
    have HBw33 : Hid (Below W0.heap.size W0 (w32.alloc (.cells #[.int .u8 0] 5))) := HBw32.out.alloc HBw32.out.size _
    have HNw33 : Hid (NoughtAt (w32.alloc (.cells #[.int .u8 0] 5)) w32.heap.size) := NoughtAt.new w32 _
    have HMw33 : Hid (MineX (w32.alloc (.cells #[.int .u8 0] 5)) (wd.heap.size) v32 (4) (Bson.leI (bn : Int) 4)) := HMw32.out.below ((Below.refl _ _).alloc (Nat.le_refl _) _)
    have HDw33 : Hid (∀ g, v32.ownBlock = some g → g ≠ w32.heap.size) := fun g hg e => by obtain ⟨h1, _, _⟩ := HMw32.out; have := (owns_block h1 hg).2; omega
    have HNSw33 : Hid (W0.heap.size ≤ w32.heap.size) := HBw32.out.size
    generalize w32.alloc (.cells #[.int .u8 0] 5) = w33 at *
    have hfw33 := HS0.out.keep HBw33.out
    unfold SixIs at hfw33
    refine hK.out _ _ (by exact hfw33) (fun hHeld => ?_)
    clear hK K
    try simp only [List.getElem_toArray, List.getElem_cons_succ, List.getElem_cons_zero, Act.put, List.setIfInBounds_toArray, List.set_cons_zero, List.set_cons_succ]
    refine wpAnyH_ready (rs := [5]) (by kernel_rfl) (by simp) ?_
    refine AllReadyH.cons rfl (fun K hK => ?_) (AllReadyH.nil)
    obtain ⟨ho1, hoct1, hbs1⟩ := HMw33.out
    refine step_append_src rfl (.tmp 90) (.tmp 91) 22 rfl (wd.heap.size) 5 i0 (.int .u8 0) 1 1 Tryd.underlying22 hi hz0 hz1 hz2 rfl (by decide) v32 (4) (u8s (Bson.leI (bn : Int) 4)) rfl ho1 (some ⟨w32.heap.size, 0, none⟩) 1 1 (u8s [0]) rfl ⟨fun e => (by cases e), fun ad e => (by cases e; exact HNw33.out.reads)⟩ rfl (fun u hu => by simp [u8s] at hu; subst hu; rfl) (by unfold maxLen; omega) (by omega) hbs1 ?_
    intro v34 w34 ho hg
    have HBw34 : Hid (Below W0.heap.size W0 w34) := HBw33.out.grown hg HBw33.out.size (fun j hj => Nat.le_trans HBSw32.out (owns_block ho1 hj).1)
    have HMw34 : Hid (MineX w34 (wd.heap.size) v34 (4 + 1) ((Bson.leI (bn : Int) 4) ++ [0])) := MineX.more ho hoct1 oct_nought (Nat.le_trans hbs1 hg.size)
    have hfw34 := HS0.out.keep HBw34.out
    unfold SixIs at hfw34
    clear ho hg ho1 hoct1 hbs1
    refine hK.out _ _ (by exact hfw34) (fun hHeld => ?_)
    clear hK K
    try simp only [List.getElem_toArray, List.getElem_cons_succ, List.getElem_cons_zero, Act.put, List.setIfInBounds_toArray, List.set_cons_zero, List.set_cons_succ]
    refine wpAnyH_ready (rs := [8]) (by kernel_rfl) (by simp) ?_
    refine AllReadyH.cons rfl (fun K hK => ?_) (AllReadyH.nil)
    obtain ⟨ho1, hoct1, hbs1⟩ := HMw34.out
    obtain ⟨_, _, eb, hob, hrb⟩ := (HY.out.keep (HB0.out.trans (HBw34.out.mono HB0.out.size)))
    injection eb with eb1 eb2 eb3
    subst eb1
    subst eb3
    have hlb : x.b.length = bn := eb2.symm
    refine step_append_src rfl (.tmp 92) (.tmp 94) 22 rfl (wd.heap.size) 5 i0 (.int .u8 0) 1 1 Tryd.underlying22 hi hz0 hz1 hz2 rfl (by decide) v34 (4 + 1) (u8s ((Bson.leI (bn : Int) 4) ++ [0])) rfl ho1 ba bn bc (u8s x.b) rfl (src_bytes hlb hrb) (by simp [u8s, hlb]) (u8s_one x.b) (by unfold maxLen; omega) (by omega) hbs1 ?_
    intro v35 w35 ho hg
    have HBw35 : Hid (Below W0.heap.size W0 w35) := HBw34.out.grown hg HBw34.out.size (fun j hj => Nat.le_trans HBSw32.out (owns_block ho1 hj).1)
    have HMw35 : Hid (MineX w35 (wd.heap.size) v35 (4 + 1 + bn) (((Bson.leI (bn : Int) 4) ++ [0]) ++ x.b)) := MineX.more ho hoct1 hob (Nat.le_trans hbs1 hg.size)
    have hfw35 := HS0.out.keep HBw35.out
    unfold SixIs at hfw35
    clear ho hg ho1 hoct1 hbs1 hrb hlb hob eb2
    refine hK.out _ _ (by exact hfw35) (fun hHeld => ?_)
    clear hK K
    try simp only [List.getElem_toArray, List.getElem_cons_succ, List.getElem_cons_zero, Act.put, List.setIfInBounds_toArray, List.set_cons_zero, List.set_cons_succ]
    refine wpAnyH_ready (rs := [10]) (by kernel_rfl) (by simp) ?_
    refine AllReadyH.cons rfl (fun K hK => ?_) (AllReadyH.nil)
    go_simp
    go_at_call 57
    refine (HBARE.out w35 (VIn.keep HBw35.out HV0.out)).mono ?_
    rintro e w36 ⟨rfl, hb⟩
    have HBw36 : Hid (Below W0.heap.size W0 w36) := HBw35.out.trans (hb.mono HBw35.out.size)
    have HMw36 : Hid (MineX w36 (wd.heap.size) v35 (4 + 1 + bn) (((Bson.leI (bn : Int) 4) ++ [0]) ++ x.b)) := HMw35.out.below hb
    have hfw36 := HS0.out.keep HBw36.out
    unfold SixIs at hfw36
    clear hb
    refine hK.out _ _ (by exact hfw36) (fun hHeld => ?_)
    clear hK K
    try simp only [List.getElem_toArray, List.getElem_cons_succ, List.getElem_cons_zero, Act.put, List.setIfInBounds_toArray, List.set_cons_zero, List.set_cons_succ]
    refine wpAnyH_take (i := 11) (v := ?_) rfl (by kernel_rfl) (by kernel_rfl) (by kernel_rfl) (fun _ _ _ h => h) (Or.inl ⟨by kernel_rfl, ?_⟩) (by assumption) ?_
    rotate_left
    · intro wS hSw
      (try dsimp only at hSw)
      go_simp
      try (with_reducible rfl)
    try simp only [List.getElem_toArray, List.getElem_cons_succ, List.getElem_cons_zero, Act.put, List.setIfInBounds_toArray, List.set_cons_zero, List.set_cons_succ]
    refine wpAnyH_take (i := 12) (v := ?_) rfl (by kernel_rfl) (by kernel_rfl) (by kernel_rfl) (fun _ _ _ h => h) (Or.inl ⟨by kernel_rfl, ?_⟩) (by assumption) ?_
    rotate_left
    · intro wS hSw
      (try dsimp only at hSw)
      go_simp
      try (with_reducible rfl)
    try simp only [List.getElem_toArray, List.getElem_cons_succ, List.getElem_cons_zero, Act.put, List.setIfInBounds_toArray, List.set_cons_zero, List.set_cons_succ]
    refine wpAnyH_done (by kernel_rfl) ?_ _
    go_wp2_with fail
    refine bodyPost_ret (v := .tuple #[v35, .bool _]) (by simp [results, Tryd.results29, go_sem]; rfl) rfl ?_
    exact ⟨_, _, _, rfl, (HMw36.out.bytes (Nat.le_trans HB0.out.size HBSw32.out)).mono (fun g hg => .inr hg), sc_bytes2 HKX.out.1 HKX.out.2 HBE.out, HB0.out.trans (HBw36.out.mono HB0.out.size)⟩
  · go_simp
    have HBw37 : Hid (Below W0.heap.size W0 (wd.alloc (.cells #[.int .u8 0] 5))) := HDR.out.alloc HDR.out.size _
    have HNw37 : Hid (NoughtAt (wd.alloc (.cells #[.int .u8 0] 5)) wd.heap.size) := NoughtAt.new wd _
    have HNSw37 : Hid (W0.heap.size ≤ wd.heap.size) := HDR.out.size
    generalize wd.alloc (.cells #[.int .u8 0] 5) = w37 at *
    have hfw37 := HS0.out.keep HBw37.out
    unfold SixIs at hfw37
    refine hK.out _ _ (by exact hfw37) (fun hHeld => ?_)
    clear hK K
    try simp only [List.getElem_toArray, List.getElem_cons_succ, List.getElem_cons_zero, Act.put, List.setIfInBounds_toArray, List.set_cons_zero, List.set_cons_succ]
    refine wpAnyH_ready (rs := [3]) (by kernel_rfl) (by simp) ?_
    refine AllReadyH.cons rfl (fun K hK => ?_) (AllReadyH.nil)
    go_simp
    go_at_call 58
    refine (num_x _ 4 w37 (by decide)).mono ?_
    rintro e w38 ⟨v38, rfl, ho, hb⟩
    have HBw38 : Hid (Below W0.heap.size W0 w38) := HBw37.out.trans (hb.mono HBw37.out.size)
    have HMw38 : Hid (MineX w38 w37.heap.size v38 4 (Bson.leI (bn : Int) 4)) := ⟨ho, leI_oct _ _, hb.size⟩
    have HNw38 : Hid (NoughtAt w38 wd.heap.size) := HNw37.out.keep hb
    have HDw38 : Hid (∀ g, v38.ownBlock = some g → g ≠ wd.heap.size) := fun g hg e => by have := (owns_block ho hg).1; have := HNw37.out.1; omega
    have HBSw38 : Hid (W0.heap.size ≤ w37.heap.size) := HBw37.out.size
    have hfw38 := HS0.out.keep HBw38.out
    unfold SixIs at hfw38
    clear ho hb
    refine hK.out _ _ (by exact hfw38) (fun hHeld => ?_)
    clear hK K
    try simp only [List.getElem_toArray, List.getElem_cons_succ, List.getElem_cons_zero, Act.put, List.setIfInBounds_toArray, List.set_cons_zero, List.set_cons_succ]
    refine wpAnyH_ready (rs := [5]) (by kernel_rfl) (by simp) ?_
    refine AllReadyH.cons rfl (fun K hK => ?_) (AllReadyH.nil)
    obtain ⟨ho1, hoct1, hbs1⟩ := HMw38.out
    refine step_append_src rfl (.tmp 90) (.tmp 91) 22 rfl (w37.heap.size) 5 i0 (.int .u8 0) 1 1 Tryd.underlying22 hi hz0 hz1 hz2 rfl (by decide) v38 (4) (u8s (Bson.leI (bn : Int) 4)) rfl ho1 (some ⟨wd.heap.size, 0, none⟩) 1 1 (u8s [0]) rfl ⟨fun e => (by cases e), fun ad e => (by cases e; exact HNw38.out.reads)⟩ rfl (fun u hu => by simp [u8s] at hu; subst hu; rfl) (by unfold maxLen; omega) (by omega) hbs1 ?_
    intro v39 w39 ho hg
    have HBw39 : Hid (Below W0.heap.size W0 w39) := HBw38.out.grown hg HBw38.out.size (fun j hj => Nat.le_trans HBSw38.out (owns_block ho1 hj).1)
    have HMw39 : Hid (MineX w39 (w37.heap.size) v39 (4 + 1) ((Bson.leI (bn : Int) 4) ++ [0])) := MineX.more ho hoct1 oct_nought (Nat.le_trans hbs1 hg.size)
    have hfw39 := HS0.out.keep HBw39.out
    unfold SixIs at hfw39
    clear ho hg ho1 hoct1 hbs1
    refine hK.out _ _ (by exact hfw39) (fun hHeld => ?_)
    clear hK K
    try simp only [List.getElem_toArray, List.getElem_cons_succ, List.getElem_cons_zero, Act.put, List.setIfInBounds_toArray, List.set_cons_zero, List.set_cons_succ]
    refine wpAnyH_ready (rs := [8]) (by kernel_rfl) (by simp) ?_
    refine AllReadyH.cons rfl (fun K hK => ?_) (AllReadyH.nil)
    obtain ⟨ho1, hoct1, hbs1⟩ := HMw39.out
    obtain ⟨_, _, eb, hob, hrb⟩ := (HY.out.keep (HB0.out.trans (HBw39.out.mono HB0.out.size)))
    injection eb with eb1 eb2 eb3
    subst eb1
    subst eb3
    have hlb : x.b.length = bn := eb2.symm
    refine step_append_src rfl (.tmp 92) (.tmp 94) 22 rfl (w37.heap.size) 5 i0 (.int .u8 0) 1 1 Tryd.underlying22 hi hz0 hz1 hz2 rfl (by decide) v39 (4 + 1) (u8s ((Bson.leI (bn : Int) 4) ++ [0])) rfl ho1 ba bn bc (u8s x.b) rfl (src_bytes hlb hrb) (by simp [u8s, hlb]) (u8s_one x.b) (by unfold maxLen; omega) (by omega) hbs1 ?_
    intro v40 w40 ho hg
    have HBw40 : Hid (Below W0.heap.size W0 w40) := HBw39.out.grown hg HBw39.out.size (fun j hj => Nat.le_trans HBSw38.out (owns_block ho1 hj).1)
    have HMw40 : Hid (MineX w40 (w37.heap.size) v40 (4 + 1 + bn) (((Bson.leI (bn : Int) 4) ++ [0]) ++ x.b)) := MineX.more ho hoct1 hob (Nat.le_trans hbs1 hg.size)
    have hfw40 := HS0.out.keep HBw40.out
    unfold SixIs at hfw40
    clear ho hg ho1 hoct1 hbs1 hrb hlb hob eb2
    refine hK.out _ _ (by exact hfw40) (fun hHeld => ?_)
    clear hK K
    try simp only [List.getElem_toArray, List.getElem_cons_succ, List.getElem_cons_zero, Act.put, List.setIfInBounds_toArray, List.set_cons_zero, List.set_cons_succ]
    refine wpAnyH_ready (rs := [10]) (by kernel_rfl) (by simp) ?_
    refine AllReadyH.cons rfl (fun K hK => ?_) (AllReadyH.nil)
    go_simp
    go_at_call 57
    refine (HBARE.out w40 (VIn.keep HBw40.out HV0.out)).mono ?_
    rintro e w41 ⟨rfl, hb⟩
    have HBw41 : Hid (Below W0.heap.size W0 w41) := HBw40.out.trans (hb.mono HBw40.out.size)
    have HMw41 : Hid (MineX w41 (w37.heap.size) v40 (4 + 1 + bn) (((Bson.leI (bn : Int) 4) ++ [0]) ++ x.b)) := HMw40.out.below hb
    have hfw41 := HS0.out.keep HBw41.out
    unfold SixIs at hfw41
    clear hb
    refine hK.out _ _ (by exact hfw41) (fun hHeld => ?_)
    clear hK K
    try simp only [List.getElem_toArray, List.getElem_cons_succ, List.getElem_cons_zero, Act.put, List.setIfInBounds_toArray, List.set_cons_zero, List.set_cons_succ]
    refine wpAnyH_take (i := 11) (v := ?_) rfl (by kernel_rfl) (by kernel_rfl) (by kernel_rfl) (fun _ _ _ h => h) (Or.inl ⟨by kernel_rfl, ?_⟩) (by assumption) ?_
    rotate_left
    · intro wS hSw
      (try dsimp only at hSw)
      go_simp
      try (with_reducible rfl)
    try simp only [List.getElem_toArray, List.getElem_cons_succ, List.getElem_cons_zero, Act.put, List.setIfInBounds_toArray, List.set_cons_zero, List.set_cons_succ]
    refine wpAnyH_take (i := 12) (v := ?_) rfl (by kernel_rfl) (by kernel_rfl) (by kernel_rfl) (fun _ _ _ h => h) (Or.inl ⟨by kernel_rfl, ?_⟩) (by assumption) ?_
    rotate_left
    · intro wS hSw
      (try dsimp only at hSw)
      go_simp
      try (with_reducible rfl)
    try simp only [List.getElem_toArray, List.getElem_cons_succ, List.getElem_cons_zero, Act.put, List.setIfInBounds_toArray, List.set_cons_zero, List.set_cons_succ]
    refine wpAnyH_done (by kernel_rfl) ?_ _
    go_wp2_with fail
    refine bodyPost_ret (v := .tuple #[v40, .bool _]) (by simp [results, Tryd.results29, go_sem]; rfl) rfl ?_
    exact ⟨_, _, _, rfl, (HMw41.out.bytes (Nat.le_trans HB0.out.size HBSw38.out)).mono (fun g hg => .inr hg), sc_bytes2 HKX.out.1 HKX.out.2 HBE.out, HB0.out.trans (HBw41.out.mono HB0.out.size)⟩
end Go.Proofs.YtpiookgkkaafeaaDoor
end
section
namespace Go.Proofs.YtpiookgkkaafeaaDoor
open Go.RowKit
open Seal
open Bson (Val)
/-- A document's bytes, of its fields. -/
def encF (D : Nat) (f : List (ByteArray × Val)) : Option (List Nat) := if (f.map (·.1)).Nodup then (Bson.row (Bson.enc D) f).map Bson.wrap else none
/-- What own does with a small value at most so high. -/
def OwnDoX (h : Nat) : Prop := ∀ (Q : Nat → Prop) (x : Val) (u : Value) (w : World) (d : Int), 0 ≤ d → d ≤ 33 → wt h x ≤ 3000 → VIn w Q h x u → Calls Tryd.prog 29 #[u, .int .i64 d] w (OwnX Q w (Bson.enc (33 - d).toNat x))
/-- What fields does with a row of small fields. -/
def FieldsDoX (h : Nat) (f : List (ByteArray × Val)) (d : Int) : Prop := ∀ (Q : Nat → Prop) (wx : World) (fa : Option Addr) (fc : Nat), f.length ≤ 1172812402961 → (∀ p ∈ f, wt h p.2 ≤ 3000) → (∀ k bs, Bson.row (Bson.enc (32 - d).toNat) (f.take k) = some bs → bs.length ≤ 60000) → FieldsIn wx Q (VIn wx Q h) fa f →
  Calls Tryd.prog 59 #[.slice fa f.length fc, .int .i64 d] wx (OwnX Q wx (encF (32 - d).toNat f))
theorem row_bad (e : Val → Option (List Nat)) : ∀ (l : List (ByteArray × Val)) (k : Nat) (hk : k < l.length), (Bson.nameMay l[k].1 = false ∨ e l[k].2 = none) → Bson.row e l = none
  | [], _, hk, _ => by simp at hk
  | (s, v) :: l, 0, _, h => by
    rcases h with h | h
    · rw [Bson.row]
      have h' : Bson.nameMay s = false := h
      rw [h']
    · rw [Bson.row]
      have h' : e v = none := h
      rw [h']
      cases Bson.nameMay s <;> rfl
  | (s, v) :: l, k + 1, hk, h => by
    have h1 := row_bad e l k (by simpa using hk) (by simpa using h)
    rw [Bson.row, h1]
    cases Bson.nameMay s <;> cases e v <;> rfl
theorem encF_val {D k : Nat} {f : List (ByteArray × Val)} (hk : k < f.length) (h : Bson.enc D f[k].2 = none) : encF D f = none := by
  rw [encF, row_bad (Bson.enc D) f k hk (.inr h)]; split <;> rfl
theorem encF_name {D k : Nat} {f : List (ByteArray × Val)} (hk : k < f.length) (h : Bson.nameMay f[k].1 = false) : encF D f = none := by
  rw [encF, row_bad (Bson.enc D) f k hk (.inl h)]; split <;> rfl
theorem encF_twice {D q k : Nat} {f : List (ByteArray × Val)} (hk : k < f.length) (hq : q < k) (h : (f[q]'(by omega)).1 = f[k].1) : encF D f = none := by
  rw [encF, if_neg]
  intro hn
  have h1 : (f.map (·.1))[q]'(by simp; omega) = (f.map (·.1))[k]'(by simp; omega) := by simpa using h
  exact List.pairwise_iff_getElem.1 hn q k (by simp; omega) (by simp; omega) hq h1
theorem nodup_snoc {k : Nat} {f : List (ByteArray × Val)} (hk : k < f.length) (hn : ((f.take k).map (·.1)).Nodup) (h : ∀ i (hi : i < f.length), i < k → f[i].1 ≠ f[k].1) : ((f.take (k + 1)).map (·.1)).Nodup := by
  rw [List.take_succ_eq_append_getElem hk, List.map_append]
  refine List.nodup_append.2 ⟨hn, by simp, fun a ha b hb => ?_⟩
  simp only [List.map_cons, List.map_nil, List.mem_singleton] at hb
  subst hb
  obtain ⟨p, hp, rfl⟩ := List.mem_map.1 ha
  obtain ⟨i, hi, rfl⟩ := List.getElem_of_mem hp
  rw [List.length_take] at hi
  rw [List.getElem_take]
  exact h i (by omega) (by omega)
theorem row_snocx (e : Val → Option (List Nat)) : ∀ (l : List (ByteArray × Val)) (k : Nat) (hk : k < l.length) (r x : List Nat), Bson.row e (l.take k) = some r → Bson.nameMay l[k].1 = true → e l[k].2 = some x →
    Bson.row e (l.take (k + 1)) = some (r ++ (Bson.code l[k].2.kind :: (Bson.bytes l[k].1 ++ (0 :: x))))
  | [], _, hk, _, _, _, _, _ => by simp at hk
  | (s, v) :: l, 0, _, r, x, hr, hn, hx => by
    have hr' : Bson.row e [] = some r := hr
    rw [Bson.row] at hr'
    cases hr'
    have h1 : Bson.nameMay s = true := hn
    have h2 : e v = some x := hx
    show Bson.row e [(s, v)] = _
    rw [Bson.row, h1, h2, Bson.row]
    show some (Bson.code v.kind :: (Bson.bytes s ++ (0 :: (x ++ [])))) = _
    rw [List.append_nil]
    rfl
  | (s, v) :: l, k + 1, hk, r, x, hr, hn, hx => by
    have hr' : Bson.row e ((s, v) :: l.take k) = some r := hr
    obtain ⟨x0, y, h1, h2, h3, rfl⟩ := Bson.row_cons hr'
    have ih := row_snocx e l k (by simpa using hk) y x h3 (by simpa using hn) (by simpa using hx)
    show Bson.row e ((s, v) :: l.take (k + 1)) = _
    rw [Bson.row, h1, h2, ih]
    simp [List.append_assoc]
theorem nameMay_eq (s : ByteArray) : Path.nameMay s.data.toList = Bson.nameMay s := by
  have h1 : (0 : UInt8) ∉ s.data.toList ↔ 0 ∉ Bson.bytes s := by
    unfold Bson.bytes
    rw [List.mem_map]
    refine not_congr ⟨fun h => ⟨0, h, rfl⟩, fun ⟨c, hc, e⟩ => ?_⟩
    have : c = 0 := UInt8.toNat_inj.1 e
    rw [← this]; exact hc
  unfold Path.nameMay Bson.nameMay
  rw [decide_eq_decide.2 h1]
  rfl
theorem code_lt256 (k : Int) : Bson.code k < 256 := by
  unfold Bson.code
  repeat' split
  all_goals omega
theorem VIn.kind_eq {w : World} {Q : Nat → Prop} {h : Nat} {x : Val} {k : Int} {c1 c2 c3 c4 c5 : Value} (hv : VIn w Q h x (.agg #[.int .i64 k, c1, c2, c3, c4, c5])) : k = x.kind := by
  cases h with
  | zero => exact hv.elim
  | succ h =>
    obtain ⟨xk, xn, xs, ba, fa, la, bn, bc, fn, fc, ln, lc, e, hk, _⟩ := hv.letters
    injection e with e
    injection e with e
    injection e with e _
    injection e with _ e
    rw [e, hk]
theorem BytesX.lt {w : World} {Q : Nat → Prop} {v : Value} {l : List Nat} (h : BytesX w Q v l) : BytesX w (fun g => Q g ∧ g < w.heap.size) v l := by
  obtain ⟨a, c, rfl, ho, hb⟩ := h
  refine ⟨a, c, rfl, ho, ?_⟩
  rcases hb with rfl | ⟨g, o, e, hq, hr⟩
  · exact .inl rfl
  · by_cases h0 : l.length = 0
    · exact .inl (List.eq_nil_of_length_eq_zero h0)
    · exact .inr ⟨g, o, e, ⟨hq, World.block_lt_of_cell? w _ (hr 0 (by omega))⟩, hr⟩
theorem BytesX.kept1 {w w' : World} {Q : Nat → Prop} {v : Value} {l : List Nat} (h : BytesX w Q v l) (hk : ∀ g, Q g → g < w.heap.size → w'.heap[g]? = w.heap[g]?) : BytesX w' Q v l := h.kept (fun g hg hl => hk g hg hl) (fun _ h => h)
/-- The row that fields gathers, and the bytes of the field at hand. -/
structure OutX (wx W : World) (base lo hi : Nat) (v : Value) (n : Nat) (l : List Nat) (vx : Value) (lx : List Nat) : Prop where
  below : Below base wx W
  row : W.ownsRow base 5 1 v n (u8s l)
  oct : Oct l
  size : base ≤ lo ∧ lo ≤ hi ∧ hi ≤ W.heap.size
  away : ∀ g, v.ownBlock = some g → g < lo ∨ hi ≤ g
  x : BytesX W (fun g => g < base ∨ (lo ≤ g ∧ g < hi)) vx lx
section
variable {wx W W' : World} {base lo hi : Nat} {v v' : Value} {n m : Nat} {l0 l : List Nat} {vx : Value} {lx : List Nat}
theorem OutX.old (h : OutX wx W base lo hi v n l vx lx) : Out wx W base lo hi v n vx lx.length :=
  ⟨h.below, ⟨l, h.row, h.oct⟩, h.size, h.away, h.x.at⟩
theorem OutX.keep (h : OutX wx W base lo hi v n l vx lx) (hb : Below W.heap.size W W') : OutX wx W' base lo hi v n l vx lx := by
  have hs := h.size
  exact ⟨h.below.trans (hb.mono (by omega)), owns_below h.row hb, h.oct, ⟨hs.1, hs.2.1, Nat.le_trans hs.2.2 hb.size⟩, h.away, h.x.kept1 (fun g _ hg => hb.block g hg)⟩
theorem OutX.put (h : OutX wx W base lo hi v n l0 vx lx) (ho : W'.ownsRow base 5 1 v' (n + m) (u8s l)) (hl : Oct l) (hg : W.grownBy W' v.ownBlock) (hm : Moved W v v') : OutX wx W' base lo hi v' (n + m) l vx lx := by
  have hs := h.size
  have h1 := h.row
  refine ⟨h.below.grown hg (by omega) (fun k hk => (owns_block h1 hk).1), ho, hl, ⟨hs.1, hs.2.1, Nat.le_trans hs.2.2 hg.size⟩, fun g hgv => ?_, h.x.kept1 (fun g hq hlt => hg.block g hlt (fun e => ?_))⟩
  · rcases hm with e | e
    · exact h.away g (by rw [← e]; exact hgv)
    · rw [e] at hgv
      injection hgv with hgv
      omega
  · have ha := h.away g e.symm
    have hb := (owns_block h1 e.symm).1
    omega
end
end Go.Proofs.YtpiookgkkaafeaaDoor
end
section
namespace Go.Proofs.YtpiookgkkaafeaaDoor
open Go.RowKit
open Seal
open Bson (Val)
def SmallPost (w : World) (h : Nat) (x : Val) (e : Ending) (w' : World) : Prop := ∃ b, e = .returned (.bool b) ∧ (b = true → wt h x ≤ 3000) ∧ Below w.heap.size w w'
set_option maxRecDepth 100000 in
set_option maxHeartbeats 2000000 in
theorem small_any (Q : Nat → Prop) (h : Nat) (x : Val) (v : Value) (w : World) (hv : VIn w Q (h + 1) x v) : Calls Tryd.prog 16 #[v] w (SmallPost w (h + 1) x) := by
  obtain ⟨xk, xn, xs, ba, fa, la, bn, bc, fn, fc, ln, lc, rfl, hxk, hxn, hxs, hbn, hfn, hln, hL, hF, hI⟩ := hv.letters
  have HV := Lib.hid hv
  have HV0 : Hid (VIn (w.alloc (.cells #[.int .i64 xk, .int .i64 xn, .string xs, .slice ba bn bc, .slice fa fn fc, .slice la ln lc] 27)) Q (h + 1) x (.agg #[.int .i64 xk, .int .i64 xn, .string xs, .slice ba bn bc, .slice fa fn fc, .slice la ln lc])) := VIn.keep ((Below.refl _ w).alloc (Nat.le_refl _) _) hv
  have HB0 : Hid (Below w.heap.size w (w.alloc (.cells #[.int .i64 xk, .int .i64 xn, .string xs, .slice ba bn bc, .slice fa fn fc, .slice la ln lc] 27))) := (Below.refl _ w).alloc (Nat.le_refl _) _
  have hS := SixIs.new w (.int .i64 xk) (.int .i64 xn) (.string xs) (.slice ba bn bc) (.slice fa fn fc) (.slice la ln lc) 27
  have HS0 := Lib.hid hS
  clear hv hxk hS hxn hxs hbn hfn hln hL hF hI
  generalize hW : w.alloc (.cells #[.int .i64 xk, .int .i64 xn, .string xs, .slice ba bn bc, .slice fa fn fc, .slice la ln lc] 27) = W0 at *
  obtain ⟨e0, e1, e2, e3, e4, e5⟩ := HS0.out
  go_enter Tryd.func16, Tryd.ntmps16
  go_wp2_with fail
  clear hW
  go_at_call 27
  refine (weight_any Q (h + 1) x _ 3000 W0 HV0.out (by decide) (by decide)).mono ?_
  rintro e w1 ⟨r, rfl, hr1, hr2, hr3, hb1⟩
  obtain ⟨f0, f1, f2, f3, f4, f5⟩ := HS0.out.keep hb1
  have HV1 := Lib.hid (VIn.keep hb1 HV0.out)
  have HB1 : Hid (Below w.heap.size w w1) := HB0.out.trans (hb1.mono HB0.out.size)
  have HR := Lib.hid hr3
  clear hb1 hr3 hr1 hr2
  by_cases hr : r ≤ 3000
  · have hd : decide (r ≤ 3000) = true := decide_eq_true hr
    have HW : Hid (wt (h + 1) x ≤ 3000) := by have := HR.out hr; show wt (h + 1) x ≤ 3000; omega
    go_wp2_with fail
    go_at_call 28
    refine (shallow_any Q (h + 1) x _ 60 w1 HV1.out (by decide) (by decide)).mono ?_
    rintro e w2 ⟨b, rfl, hb2⟩
    have HB2 : Hid (Below w.heap.size w w2) := HB1.out.trans (hb2.mono HB1.out.size)
    clear hb2
    go_wp2_with fail
    go_ret
    exact ⟨_, rfl, fun _ => HW.out, HB2.out⟩
  · have hd : decide (r ≤ 3000) = false := decide_eq_false hr
    go_wp2_with fail
    go_ret
    exact ⟨_, rfl, fun hb => (by cases hb), HB1.out⟩
end Go.Proofs.YtpiookgkkaafeaaDoor
end
section
namespace Go.Proofs.YtpiookgkkaafeaaDoor
open Go.RowKit
open Seal
open Bson (Val)
end Go.Proofs.YtpiookgkkaafeaaDoor
end
section
namespace Go.Proofs.YtpiookgkkaafeaaDoor
open Go.RowKit
open Seal
open Bson (Val)
open Path (nameMay)
theorem nameMay_len {l : List UInt8} (h : nameMay l = true) : l.length ≤ 120 := by
  unfold nameMay at h
  simp at h
  omega
theorem run_make4 (u : World) : (Instr.makeSlice 22 (.int .i64 4) (.int .i64 4)).run Tryd.prog u = .ok (.slice (some ⟨u.heap.size, 0, none⟩) 4 4) (u.alloc (.cells (madeCells #[.int .u8 0] 4) 5)) := by
  obtain ⟨i0, hi, hz0, hz1, hz2⟩ := info_parts infoU8
  have h := run_make (P := Tryd.prog) u 22 5 i0 (.int .u8 0) Tryd.underlying22 hi hz0 .i64 .i64 4 4 (by omega) (Int.le_refl _) (by rw [hz2]; omega) (by omega)
  simpa [hz1, Value.cells] using h
theorem head_over {w : World} {base g cap n : Nat} {cur : Array Value} {l l4 : List Nat} (hbg : base ≤ g) (hrow : w.heap[g]? = some (.cells cur 5 (0, 0))) (hnc : n ≤ cap) (hm : cap ≤ maxLen) (hsz : cur.size = cap * 1)
    (htake : cur.toList.take (n * 1) = u8s l) (hl4 : l4.length = 4) (h4 : 4 ≤ n) :
    (w.setRow g (cur.toList.take 0 ++ u8s l4 ++ cur.toList.drop (0 + (u8s l4).length)).toArray).ownsRow base 5 1 (.slice (some ⟨g, 0, none⟩) n cap) n (u8s (l4 ++ l.drop 4)) := by
  have e4 : (u8s l4).length = 4 := by simp [u8s, hl4]
  have ec : cur.toList.length = cap := by rw [Array.length_toList, hsz, Nat.mul_one]
  have el : l.length = n := by
    have := congrArg List.length htake
    simp [u8s] at this
    omega
  refine ⟨by simp [u8s, hl4, el]; omega, .inr ⟨g, cap, _, rfl, hbg, setRow_heap w g _ _ _ _ hrow, hnc, hm, ?_, ?_⟩⟩
  · rw [List.size_toArray, List.take_zero, List.nil_append, List.length_append, Nat.zero_add, e4, List.length_drop, ec]
    omega
  · rw [List.take_zero, List.nil_append, Nat.zero_add, e4, List.take_append, e4, List.take_of_length_le (by rw [e4]; omega), ← List.drop_take, htake, u8s_app]
    congr 1
    unfold u8s
    rw [List.map_drop]
end Go.Proofs.YtpiookgkkaafeaaDoor
end
