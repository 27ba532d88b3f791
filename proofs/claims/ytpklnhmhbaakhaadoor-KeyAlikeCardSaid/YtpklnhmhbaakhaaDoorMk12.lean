/- PathEachV, KeyText. -/
import Derived.WalkSpells
import Derived.Test.YtpklnhmhbaakhaaDoorShelf
import Derived.Lib.Replace
import Derived.Test.YtpklnhmhbaakhaaDoorMk10
import Derived.Test.YtpklnhmhbaakhaaDoorMk11
set_option maxRecDepth 100000
section
namespace Go.Proofs.YtpklnhmhbaakhaaDoor
open Go.RowKit
open Seal
open Bson (Val)
theorem infoV6 : (Tryd.prog.info? 27).map (fun i => (i.zero, i.size, i.bytes)) = some (some (.agg #[.int .i64 0, .int .i64 0, .string ⟨#[]⟩, .slice none 0 0, .slice none 0 0, .slice none 0 0]), 6, 104) := by kernel_rfl
theorem run_makeVals (n : Nat) (hn : n ≤ 1353245080339) (u : World) : (Instr.makeSlice 25 (.int .i64 (n : Int)) (.int .i64 (n : Int))).run Tryd.prog u = .ok (.slice (some ⟨u.heap.size, 0, none⟩) n n) (u.alloc (.cells (madeCells #[.int .i64 0, .int .i64 0, .string ⟨#[]⟩, .slice none 0 0, .slice none 0 0, .slice none 0 0] (n * 6)) 27)) := by
  obtain ⟨i0, hi, hz0, hz1, hz2⟩ := info_parts infoV6
  have h := run_make (P := Tryd.prog) u 25 27 i0 (.agg #[.int .i64 0, .int .i64 0, .string ⟨#[]⟩, .slice none 0 0, .slice none 0 0, .slice none 0 0]) Tryd.underlying25 hi hz0 .i64 .i64 (n : Int) (n : Int) (by omega) (Int.le_refl _) (by rw [hz2]; omega) (by omega)
  rw [Int.toNat_natCast] at h
  simpa [hz1, Value.cells] using h
set_option maxRecDepth 100000 in
set_option maxHeartbeats 1000000 in
theorem eachV_any (Q : Nat → Prop) (h : Nat) (IH0 : CopyAt Q h) (a : Option Addr) (n c : Nat) (l : List Val) (w : World) (hn : l.length = n) (hnb : n ≤ 1353245080339) (hI : ItemsIn w Q (VIn w Q h) a l) :
    Calls Tryd.prog 41 #[.slice a n c, .func (.func 21) #[] #[]] w fun e w' => ∃ a' c', e = .returned (.slice a' n c') ∧ (n ≤ c' ∧ c' ≤ 9223372036854775807) ∧ ItemsIn w' (fun g => w.heap.size ≤ g) (VIn w' (fun g => w.heap.size ≤ g) h) a' l ∧ Below w.heap.size w w' := by
  have IH := Lib.hid IH0
  have HI := Lib.hid hI
  have HN := Lib.hid hn
  clear hI IH0 hn
  have hmk := run_makeVals n hnb
  have he := fun u : World => Lib.run_eql_slice_nil (P := Tryd.prog) u 25 27 a n c 0 0 Tryd.underlying25
  cases a with
  | none =>
    have hnil : l = [] := by
      rcases HI.out with h | ⟨g, o, e, _⟩
      · exact h
      · cases e
    have hn0 : n = 0 := by rw [← HN.out, hnil]; rfl
    subst hn0
    have HNIL := Lib.hid hnil
    clear hnil
    go_enter Tryd.func41, Tryd.ntmps41
    go_wp2_with fail
    go_ret
    exact ⟨none, 0, rfl, ⟨Nat.le_refl _, by omega⟩, .inl HNIL.out, Below.refl _ _⟩
  | some p =>
    go_enter Tryd.func41, Tryd.ntmps41
    go_wp2_with fail
    go_loopw [15] (fun i wr => ∃ k : Nat, i = .int .i64 k ∧ k ≤ n ∧ Hid (Row6 wr w.heap.size 27 (n * 6)) ∧ Hid (Vals wr w.heap.size h l k) ∧ Hid (Below w.heap.size w wr)) (fun i _ => n - (intOf i).toNat)
    case atStart => exact ⟨0, rfl, Nat.zero_le _, ⟨_, heap_alloc_new w _, size_madeCells _ _⟩, Vals.none _ _ _ _, (Below.refl _ w).alloc (Nat.le_refl _) _⟩
    case round =>
      obtain ⟨k, rfl, hk, HR, HVS, HB⟩ := hrel
      by_cases hlt : k < n
      · obtain ⟨g, o, hla, _, hall⟩ := HI.out.resolve_left (fun e => by have := HN.out; rw [e] at this; simp at this; omega)
        obtain ⟨v', hsix, hV⟩ := hall k (by have := HN.out; omega)
        obtain rfl := Option.some.inj hla
        obtain ⟨ka, na, sa, ba, fa, la, bl, bc, fl, fc, ll, lc, rfl⟩ := hV.shape
        have HV := Lib.hid (VIn.keep HB.out hV)
        obtain ⟨s0, s1, s2, s3, s4, s5⟩ := (hsix.keep HB.out).cells
        clear hall hsix hV
        go_wp2_with fail
        have HVa := Lib.hid (VIn.keep ((Below.refl _ wr).alloc (Nat.le_refl _) (.cells #[.int .i64 ka, .int .i64 na, .string sa, .slice ba bl bc, .slice fa fl fc, .slice la ll lc] 27)) HV.out)
        refine (IH.out _ _ _ HVa.out).mono ?_
        rintro e w2 ⟨v2, rfl, hv2, hb2⟩
        obtain ⟨kd, nd, sd, bd, fd, ld, bm, bz, fm, fz, lm, lz, rfl⟩ := hv2.shape
        have HB2 : Hid (Below wr.heap.size wr w2) := ((Below.refl _ wr).alloc (Nat.le_refl _) _).trans (hb2.mono (by simp))
        have HR2 := Lib.hid (HR.out.keep HB2.out)
        have HVS2 := Lib.hid (HVS.out.keep HB2.out)
        have HBw2 : Hid (Below w.heap.size w w2) := HB.out.trans (HB2.out.mono HB.out.size)
        have hGlt : w.heap.size < wr.heap.size := HR.out.lt
        have HV2 : Hid (VIn w2 (fun g => w.heap.size < g) h (l[k]'(by have := HN.out; omega)) (.agg #[.int .i64 kd, .int .i64 nd, .string sd, .slice bd bm bz, .slice fd fm fz, .slice ld lm lz])) := hv2.kept (Kept.of_below (Below.refl _ _)) (fun g hg => by simp at hg; omega)
        clear hv2 hb2
        obtain ⟨⟨z0, g0⟩, f0⟩ := HR2.out.at (j := k * 6) (by omega)
        obtain ⟨⟨z1, g1⟩, f1⟩ := HR2.out.at (j := k * 6 + 1) (by omega)
        obtain ⟨⟨z2, g2⟩, f2⟩ := HR2.out.at (j := k * 6 + 2) (by omega)
        obtain ⟨⟨z3, g3⟩, f3⟩ := HR2.out.at (j := k * 6 + 3) (by omega)
        obtain ⟨⟨z4, g4⟩, f4⟩ := HR2.out.at (j := k * 6 + 4) (by omega)
        obtain ⟨⟨z5, g5⟩, f5⟩ := HR2.out.at (j := k * 6 + 5) (by omega)
        have HN2 : Hid (Vals (puts w2 w.heap.size (k * 6) [.int .i64 kd, .int .i64 nd, .string sd, .slice bd bm bz, .slice fd fm fz, .slice ld lm lz]) w.heap.size h l (k + 1)) := HVS2.out.put HR2.out (by have := HN.out; omega) (by rw [HN.out]) HV2.out
        have HR3 := Lib.hid (HR2.out.puts (k * 6) [.int .i64 kd, .int .i64 nd, .string sd, .slice bd bm bz, .slice fd fm fz, .slice ld lm lz] (by simp; omega)).1
        have HB3 := Lib.hid (puts_below HBw2.out (G := w.heap.size) (Nat.le_refl _) [.int .i64 kd, .int .i64 nd, .string sd, .slice bd bm bz, .slice fd fm fz, .slice ld lm lz] (k * 6))
        clear s0 s1 s2 s3 s4 s5 HV HVa HVS HR HB
        go_wp2_with fail
        go_roundw
        case rel => exact ⟨k + 1, by go_num, by omega, HR3, HN2, HB3⟩
        case measure => simp [intOf]; omega
      · have hkk : k = n := by omega
        subst hkk
        go_wp2_with fail
        go_ret
        refine ⟨some ⟨w.heap.size, 0, none⟩, k, rfl, ⟨Nat.le_refl _, by omega⟩, .inr ⟨w.heap.size, 0, rfl, Nat.le_refl _, fun i hi => ?_⟩, HB.out⟩
        obtain ⟨v, h1, h2⟩ := HVS.out i hi (by rw [← HN.out]; exact hi)
        rw [Nat.zero_add]
        exact ⟨v, h1, h2.kept (Kept.of_below (Below.refl _ _)) (fun g hg => Nat.le_of_lt hg)⟩
end Go.Proofs.YtpklnhmhbaakhaaDoor
end
section
namespace Go.Proofs.YtpklnhmhbaakhaaDoor
open Go.RowKit
open Seal
open Bson (Val)
theorem xor_63 (x : Nat) (h : x < 18446744073709551616) : x ^^^ 9223372036854775808 = if x < 9223372036854775808 then x + 9223372036854775808 else x - 9223372036854775808 := by
  have e1 := Nat.xor_div_two_pow (a := x) (b := 9223372036854775808) (n := 63)
  have e2 := Nat.xor_mod_two_pow (a := x) (b := 9223372036854775808) (n := 63)
  have n1 : (9223372036854775808 : Nat) / 2 ^ 63 = 1 := by decide
  have n2 : (9223372036854775808 : Nat) % 2 ^ 63 = 0 := by decide
  rw [n1] at e1
  rw [n2, Nat.xor_zero] at e2
  have hp : (2 : Nat) ^ 63 = 9223372036854775808 := by decide
  rw [hp] at e1 e2
  have hm := Nat.div_add_mod (x ^^^ 9223372036854775808) 9223372036854775808
  rw [e1, e2] at hm
  split
  · rename_i hx
    rw [Nat.div_eq_of_lt hx, Nat.mod_eq_of_lt hx, Nat.zero_xor] at hm
    omega
  · rename_i hx
    have hq : x / 9223372036854775808 = 1 := by omega
    rw [hq, Nat.xor_self] at hm
    omega
theorem xor_u64 (z : Int) (h0 : -9223372036854775808 ≤ z) (h1 : z ≤ 9223372036854775807) : bits .xor .u64 (IntKind.u64.wrap z) 9223372036854775808 = z + 9223372036854775808 := by
  obtain ⟨x, hx⟩ : ∃ x : Nat, x = (z % 18446744073709551616).toNat := ⟨_, rfl⟩
  have hx2 : IntKind.u64.wrap z = (x : Int) := by rw [IntKind.wrap_u64]; omega
  have hlt : x < 18446744073709551616 := by omega
  have e : (BitVec.ofInt 64 (x : Int) ^^^ BitVec.ofInt 64 9223372036854775808).toNat = x ^^^ 9223372036854775808 := by
    rw [BitVec.toNat_xor, BitVec.toNat_ofInt, BitVec.toNat_ofInt]
    congr 1
    omega
  rw [hx2]
  show IntKind.u64.wrap (((BitVec.ofInt 64 (x : Int) ^^^ BitVec.ofInt 64 9223372036854775808).toNat : Nat) : Int) = _
  rw [e, xor_63 x hlt, IntKind.wrap_u64]
  split <;> omega
set_option maxRecDepth 100000 in
set_option maxHeartbeats 1000000 in
theorem signed_put (w : World) (gp base : Nat) (l : List Nat) (v : Value) (z : Int) (hP : Pen w gp base l v) (hl : l.length + 8 ≤ 2147483648) (hz0 : -9223372036854775808 ≤ z) (hz1 : z ≤ 9223372036854775807) :
    Calls Tryd.prog 66 #[.pointer (some ⟨gp, 0, none⟩), .int .i64 z] w (PenPost w gp base l (Key.numB z) v) := by
  have HC := Lib.hid (number_any w gp base l v (Key.off z) hP hl)
  have he : (Key.off z : Int) = z + 9223372036854775808 := by unfold Key.off; omega
  rw [he] at HC
  have hx := xor_u64 z hz0 hz1
  clear hP he hz0 hz1 hl
  go_enter Tryd.func66, Tryd.ntmps66
  go_wp2_with fail
  go_at_call 70
  refine HC.out.mono ?_
  rintro e w1 ⟨rfl, v1, p1, p2⟩
  have HE := Lib.hid (And.intro p1 p2)
  clear p1 p2
  go_wp2_with fail
  exact bodyPost_ret (results_none Tryd.results66 _ _ _) rfl ⟨rfl, v1, HE.out.1, HE.out.2⟩
/-- Each byte 0 told from the end, as the library's ReplaceAll does it. -/
def flatK (c : UInt8) (n : List UInt8) : List UInt8 → List UInt8
  | [] => []
  | x :: r => if x = c then n ++ flatK c n r else x :: flatK c n r
theorem replace_flat (c : UInt8) (n : List UInt8) : ∀ s : List UInt8, Lib.replaceK [c] n (Lib.count s [c]) s = flatK c n s
  | [] => by rw [show Lib.count ([] : List UInt8) [c] = 0 from (Lib.count_one c []).trans rfl]; rfl
  | x :: r => by
    have ih := replace_flat c n r
    rw [flatK]
    by_cases e : x = c
    · subst e
      rw [if_pos rfl, Lib.count_cons_eq, Nat.add_comm, Lib.replaceK_hit (i := 0)]
      · rw [List.take_zero, List.nil_append, show (x :: r).drop (0 + [x].length) = r from rfl, ih]
      · rw [Lib.index]; simp
    · rw [if_neg e, Lib.count_cons_ne x c r e]
      have hi : Lib.index (x :: r) [c] = if Lib.index r [c] == -1 then -1 else Lib.index r [c] + 1 := by
        rw [Lib.index]
        simp [Ne.symm e]
      cases hk : Lib.count r [c] with
      | zero => rw [hk] at ih; rw [← ih]; rfl
      | succ k =>
        obtain ⟨i, hix⟩ := Lib.index_of_count (s := r) (old := [c]) (by omega)
        rw [hix, if_neg (by rw [beq_iff_eq]; omega)] at hi
        rw [hk, Lib.replaceK_hit _ _ _ _ i hix] at ih
        rw [Lib.replaceK_hit _ _ _ _ (i + 1) (by rw [hi]; rfl), ← ih]
        simp
theorem flat_esc : ∀ s : List UInt8, (flatK 0 [0, 1] s).map UInt8.toNat = Key.esc (s.map UInt8.toNat)
  | [] => rfl
  | x :: r => by
    have ih := flat_esc r
    rw [flatK, List.map_cons, Key.esc_cons]
    by_cases e : x = 0
    · subst e
      rw [if_pos rfl, if_pos (by rfl), List.map_append, ih]; rfl
    · rw [if_neg e, if_neg (fun h => e (UInt8.toNat_inj.1 (by simpa using h))), List.map_cons, ih]
theorem esc_bytes (s : ByteArray) : Order.bytes ⟨(Lib.replaceAll s.data.toList [0] [0, 1]).toArray⟩ = Key.esc (Order.bytes s) := by
  unfold Order.bytes Lib.replaceAll Lib.replace
  rw [if_neg (by decide), Lib.replaceNum, if_pos (.inl (by decide)), replace_flat]
  exact flat_esc _
theorem esc_length : ∀ l : List Nat, l.length ≤ (Key.esc l).length ∧ (Key.esc l).length ≤ 2 * l.length
  | [] => ⟨Nat.le_refl _, Nat.le_refl _⟩
  | x :: r => by
    have := esc_length r
    rw [Key.esc_cons]
    split <;> (simp only [List.length_cons]; omega)
theorem bytes_size (s : ByteArray) : (Order.bytes s).length = s.size := by simp [Order.bytes]
theorem str_cells (s : ByteArray) : Lib.strCells s = u8s (Order.bytes s) := by
  unfold Lib.strCells u8s Order.bytes
  rw [List.map_map]
  rfl
theorem oct_bytes (s : ByteArray) : Oct (Order.bytes s) := fun c hc => by
  obtain ⟨b, _, rfl⟩ := List.mem_map.1 hc
  exact b.toNat_lt
/-- A text's bytes are appended to the row. -/
theorem Pen.str {w w1 : World} {gp base : Nat} {l : List Nat} {v : Value} (h : Pen w gp base l v) (hb : Below w.heap.size w w1) (s : ByteArray) (hl : l.length + s.size ≤ 2147483648) :
    ∃ v' w', (∀ ty, (Builtin.append_ #[23, 9] ty #[v, .string s]).run Tryd.prog w1 = .ok v' w') ∧ w'.cell? ⟨gp, 0, none⟩ = some v ∧ w'.frozen? ⟨gp, 0, none⟩ = false ∧
      Pen (w'.setCell ⟨gp, 0, none⟩ v') gp base (l ++ Order.bytes s) v' ∧ PMv gp w (w'.setCell ⟨gp, 0, none⟩ v') v v' := by
  obtain ⟨i0, hi, hz0, hz1, hz2⟩ := info_parts infoByte
  have h2 := h.keep hb
  obtain ⟨v', w', hr, hown, hw⟩ := run_append_str_or (P := Tryd.prog) w1 base 23 9 23 5 i0 Tryd.underlying23 Tryd.underlying9 hi hz0 hz1 hz2 v l.length (u8s l) h2.own s (by unfold maxLen; omega) (by omega) h2.size
  have hown' : w'.ownsRow base 5 1 v' (l.length + s.size) (u8s (l ++ Order.bytes s)) := by
    have e : u8s (l ++ Order.bytes s) = u8s l ++ Lib.strCells s := by rw [str_cells]; unfold u8s; rw [List.map_append]
    rw [e]; exact hown
  obtain ⟨p1, p2⟩ := h2.app hw hown' (oct_bytes s)
  obtain ⟨c1, c2⟩ := h2.wrote hw
  exact ⟨v', w', fun ty => (show _ = _ from hr), c1, c2, p1, (PMv.of_below v hb).trans p2⟩
set_option maxRecDepth 100000 in
set_option maxHeartbeats 2000000 in
theorem text_put (w : World) (gp base : Nat) (l : List Nat) (v : Value) (s : ByteArray) (hP : Pen w gp base l v) (hl : l.length + (Key.textB (Order.bytes s)).length ≤ 2147483648) (hm : ∃ m, w.cell? ⟨2, 0, none⟩ = some (.int .i64 m)) :
    Calls Tryd.prog 67 #[.pointer (some ⟨gp, 0, none⟩), .string s] w (PenPost w gp base l (Key.textB (Order.bytes s)) v) := by
  obtain ⟨m, hm⟩ := hm
  have hel := esc_length (Order.bytes s)
  rw [bytes_size] at hel
  have hl2 : l.length + (Key.esc (Order.bytes s)).length + 2 ≤ 2147483648 := by
    unfold Key.textB at hl; rw [List.length_append] at hl; simp only [List.length_cons, List.length_nil] at hl; omega
  have HR := Lib.hid (fun w (hm : w.cell? ⟨2, 0, none⟩ = some (.int .i64 m)) => Tryd.strings_ReplaceAll s ⟨#[0]⟩ ⟨#[0, 1]⟩ m w (by omega) hm (by decide) (by
    have h1 : Lib.countB s ⟨#[0]⟩ ≤ s.size := by
      show Lib.count s.data.toList [0] ≤ _
      rw [Lib.count_one]
      exact Nat.le_trans List.count_le_length (by simp)
    have h2 : (⟨#[0, 1]⟩ : ByteArray).size = 2 := rfl
    rw [h2]; omega))
  have HEB := Lib.hid (esc_bytes s)
  obtain ⟨r, hr⟩ : ∃ r : ByteArray, r = ⟨(Lib.replaceAll s.data.toList [0] [0, 1]).toArray⟩ := ⟨_, rfl⟩
  have HR2 : Hid (∀ w, w.cell? ⟨2, 0, none⟩ = some (.int .i64 m) → Calls Tryd.prog 77 #[.string s, .string ⟨#[0]⟩, .string ⟨#[0, 1]⟩] w fun e w' => e = .returned (.string r) ∧ Below w.heap.size w w') := fun w hm => by
    rw [hr]; exact HR.out w hm
  have HEB2 : Hid (Order.bytes r = Key.esc (Order.bytes s)) := by rw [hr]; exact HEB.out
  have hrs : l.length + r.size + 2 ≤ 2147483648 := by rw [← bytes_size r, HEB2.out]; exact hl2
  have HRS := Lib.hid hrs
  have hd : Below w.heap.size w w.drew := (Below.refl _ w).drew
  have HP := Lib.hid hP
  have c0 := hP.c0
  obtain ⟨a, c, hv⟩ := hP.shape
  obtain ⟨n, hn⟩ : ∃ n, n = l.length := ⟨_, rfl⟩
  rw [← hn] at hv
  clear HR HEB hr hrs hl hl2 hel hP hn hd
  subst hv
  go_enter Tryd.func67, Tryd.ntmps67
  go_wp2_with fail
  refine wp_region_held_drew (S := fun _ => True) (by kernel_rfl) trivial (fun hHeld => ?_)
  refine wpAnyH_take (i := 0) (v := ?_) rfl (by kernel_rfl) (by kernel_rfl) (by kernel_rfl) (fun _ _ _ h => h) (Or.inl ⟨by kernel_rfl, ?_⟩) (by assumption) ?_
  rotate_left
  · intro wS hSw
    go_simp
    try (with_reducible rfl)
  try simp only [List.getElem_toArray, List.getElem_cons_zero, Act.put, List.setIfInBounds_toArray, List.set_cons_zero, List.set_cons_succ]
  refine wpAnyH_take (i := 1) (v := ?_) rfl (by kernel_rfl) (by kernel_rfl) (by kernel_rfl) (fun _ _ _ h => h) (Or.inl ⟨by kernel_rfl, ?_⟩) (by assumption) ?_
  rotate_left
  · intro wS hSw
    go_simp
    try (with_reducible rfl)
  try simp only [List.getElem_toArray, List.getElem_cons_succ, List.getElem_cons_zero, Act.put, List.setIfInBounds_toArray, List.set_cons_zero, List.set_cons_succ]
  refine wpAnyH_take (i := 2) (v := ?_) rfl (by kernel_rfl) (by kernel_rfl) (by kernel_rfl) (fun _ _ _ h => h) (Or.inl ⟨by kernel_rfl, ?_⟩) (by assumption) ?_
  rotate_left
  · intro wS hSw
    go_simp
    try (with_reducible rfl)
  try simp only [List.getElem_toArray, List.getElem_cons_succ, List.getElem_cons_zero, Act.put, List.setIfInBounds_toArray, List.set_cons_zero, List.set_cons_succ]
  refine wpAnyH_take (i := 3) (v := ?_) rfl (by kernel_rfl) (by kernel_rfl) (by kernel_rfl) (fun _ _ _ h => h) (Or.inl ⟨by kernel_rfl, ?_⟩) (by assumption) ?_
  rotate_left
  · intro wS hSw
    go_simp
    try (with_reducible rfl)
  try simp only [List.getElem_toArray, List.getElem_cons_succ, List.getElem_cons_zero, Act.put, List.setIfInBounds_toArray, List.set_cons_zero, List.set_cons_succ]
  refine wpAnyH_take (i := 5) (v := ?_) rfl (by kernel_rfl) (by kernel_rfl) (by kernel_rfl) (fun _ _ _ h => h) (Or.inl ⟨by kernel_rfl, ?_⟩) (by assumption) ?_
  rotate_left
  · intro wS hSw
    go_simp
    try (with_reducible rfl)
  try simp only [List.getElem_toArray, List.getElem_cons_succ, List.getElem_cons_zero, Act.put, List.setIfInBounds_toArray, List.set_cons_zero, List.set_cons_succ]
  refine wpAnyH_ready (rs := [4, 6]) (by kernel_rfl) (by simp) ?_
  refine AllReadyH.cons rfl (fun K hK => ?_) (AllReadyH.cons rfl (fun K hK => ?_) AllReadyH.nil)
  · go_simp
    refine hK.out _ _ trivial (fun hHeld => ?_)
    clear hK K
    try simp only [List.getElem_toArray, List.getElem_cons_succ, List.getElem_cons_zero, Act.put, List.setIfInBounds_toArray, List.set_cons_zero, List.set_cons_succ]
    refine wpAnyH_ready (rs := [6]) (by kernel_rfl) (by simp) ?_
    refine AllReadyH.cons rfl (fun K hK => ?_) AllReadyH.nil
    go_simp
    go_at_call 77
    refine (HR2.out w.drew hm).mono ?_
    rintro e wx ⟨rfl, hbx⟩
    have hbw : Below w.heap.size w wx := ((Below.refl _ w).drew).trans hbx
    obtain ⟨v1, w1, hr1, c1, c2, p1, p2⟩ := HP.out.str hbw r (by have := HRS.out; omega)
    have c5 := cell_keep hbw c0
    have HE := Lib.hid (And.intro p1 (And.intro p2 (cell_keep hbw hm)))
    obtain ⟨a1, k1, hv1⟩ := p1.shape
    generalize (l ++ Order.bytes r).length = n1 at *
    subst hv1
    have hrd := hr1 23
    clear hr1 p1 p2 hbx hbw
    refine hK.out _ _ trivial (fun hHeld => ?_)
    clear hK K
    try simp only [List.getElem_toArray, List.getElem_cons_succ, List.getElem_cons_zero, Act.put, List.setIfInBounds_toArray, List.set_cons_zero, List.set_cons_succ]
    refine wpAnyH_ready (rs := [7]) (by kernel_rfl) (by simp) ?_
    refine AllReadyH.cons rfl (fun K hK => ?_) AllReadyH.nil
    refine step_run_append rfl (.tmp 8) (.tmp 10) 23 9 rfl _ _ _ w1 rfl rfl hrd ?_
    refine hK.out _ _ trivial (fun hHeld => ?_)
    clear hK K
    try simp only [List.getElem_toArray, List.getElem_cons_succ, List.getElem_cons_zero, Act.put, List.setIfInBounds_toArray, List.set_cons_zero, List.set_cons_succ]
    refine wpAnyH_take (i := 8) (v := ?_) rfl (by kernel_rfl) (by kernel_rfl) (by kernel_rfl) (fun _ _ _ h => h) (Or.inl ⟨by kernel_rfl, ?_⟩) (by assumption) ?_
    rotate_left
    · intro wS hSw
      go_simp
      try (with_reducible rfl)
    try simp only [List.getElem_toArray, List.getElem_cons_succ, List.getElem_cons_zero, Act.put, List.setIfInBounds_toArray, List.set_cons_zero, List.set_cons_succ]
    refine wpAnyH_take (i := 9) (v := ?_) rfl (by kernel_rfl) (by kernel_rfl) (by kernel_rfl) (fun _ _ _ h => h) (Or.inl ⟨by kernel_rfl, ?_⟩) (by assumption) ?_
    rotate_left
    · intro wS hSw
      go_simp
      try (with_reducible rfl)
    try simp only [List.getElem_toArray, List.getElem_cons_succ, List.getElem_cons_zero, Act.put, List.setIfInBounds_toArray, List.set_cons_zero, List.set_cons_succ]
    refine wpAnyH_ready (rs := [10]) (by kernel_rfl) (by simp) ?_
    refine AllReadyH.cons rfl (fun K hK => ?_) AllReadyH.nil
    go_simp
    refine hK.out _ _ trivial (fun hHeld => ?_)
    clear hK K
    try simp only [List.getElem_toArray, List.getElem_cons_succ, List.getElem_cons_zero, Act.put, List.setIfInBounds_toArray, List.set_cons_zero, List.set_cons_succ]
    refine wpAnyH_done (by kernel_rfl) ?_ _
    have HPM := Lib.hid (HE.out.2.1.below HP.out)
    have HQ := Lib.hid HE.out.1
    have HMV := Lib.hid HE.out.2.1
    clear HE c1 c2 hrd c0 c5 hm HR2
    generalize w1.setCell ⟨gp, 0, none⟩ (.slice a1 n1 k1) = W1 at *
    obtain ⟨v3, w3, hr3, d1, d2, q1, q2⟩ := HQ.out.str (Below.refl _ W1) ⟨#[0, 0]⟩ (by rw [List.length_append, bytes_size]; have := HRS.out; have e2 : (⟨#[0, 0]⟩ : ByteArray).size = 2 := rfl; omega)
    have d0 := HQ.out.c0
    have HE2 := Lib.hid (And.intro q1 q2)
    obtain ⟨a3, k3, hv3⟩ := q1.shape
    generalize (l ++ Order.bytes r ++ Order.bytes ⟨#[0, 0]⟩).length = n3 at *
    subst hv3
    have hrd3 := hr3 23
    clear hr3 q1 q2
    go_wp2_with (at_builtin; refine wpList_run_append rfl (.tmp 18) (.const (.string ⟨#[0, 0]⟩)) 23 9 rfl _ _ _ w3 rfl rfl hrd3 ?_)
    refine bodyPost_ret (results_none Tryd.results67 _ _ _) rfl ⟨rfl, _, ?_, HMV.out.trans HE2.out.2⟩
    have h9 := HE2.out.1
    rw [List.append_assoc, HEB2.out] at h9
    exact h9
  · go_simp
    go_at_call 77
    refine (HR2.out w.drew hm).mono ?_
    rintro e wx ⟨rfl, hbx⟩
    have hbw : Below w.heap.size w wx := ((Below.refl _ w).drew).trans hbx
    obtain ⟨v1, w1, hr1, c1, c2, p1, p2⟩ := HP.out.str hbw r (by have := HRS.out; omega)
    have c5 := cell_keep hbw c0
    have HE := Lib.hid (And.intro p1 (And.intro p2 (cell_keep hbw hm)))
    obtain ⟨a1, k1, hv1⟩ := p1.shape
    generalize (l ++ Order.bytes r).length = n1 at *
    subst hv1
    have hrd := hr1 23
    clear hr1 p1 p2 hbx hbw
    refine hK.out _ _ trivial (fun hHeld => ?_)
    clear hK K
    try simp only [List.getElem_toArray, List.getElem_cons_succ, List.getElem_cons_zero, Act.put, List.setIfInBounds_toArray, List.set_cons_zero, List.set_cons_succ]
    refine wpAnyH_ready (rs := [4]) (by kernel_rfl) (by simp) ?_
    refine AllReadyH.cons rfl (fun K hK => ?_) AllReadyH.nil
    go_simp
    refine hK.out _ _ trivial (fun hHeld => ?_)
    clear hK K
    try simp only [List.getElem_toArray, List.getElem_cons_succ, List.getElem_cons_zero, Act.put, List.setIfInBounds_toArray, List.set_cons_zero, List.set_cons_succ]
    refine wpAnyH_ready (rs := [7]) (by kernel_rfl) (by simp) ?_
    refine AllReadyH.cons rfl (fun K hK => ?_) AllReadyH.nil
    refine step_run_append rfl (.tmp 8) (.tmp 10) 23 9 rfl _ _ _ w1 rfl rfl hrd ?_
    refine hK.out _ _ trivial (fun hHeld => ?_)
    clear hK K
    try simp only [List.getElem_toArray, List.getElem_cons_succ, List.getElem_cons_zero, Act.put, List.setIfInBounds_toArray, List.set_cons_zero, List.set_cons_succ]
    refine wpAnyH_take (i := 8) (v := ?_) rfl (by kernel_rfl) (by kernel_rfl) (by kernel_rfl) (fun _ _ _ h => h) (Or.inl ⟨by kernel_rfl, ?_⟩) (by assumption) ?_
    rotate_left
    · intro wS hSw
      go_simp
      try (with_reducible rfl)
    try simp only [List.getElem_toArray, List.getElem_cons_succ, List.getElem_cons_zero, Act.put, List.setIfInBounds_toArray, List.set_cons_zero, List.set_cons_succ]
    refine wpAnyH_take (i := 9) (v := ?_) rfl (by kernel_rfl) (by kernel_rfl) (by kernel_rfl) (fun _ _ _ h => h) (Or.inl ⟨by kernel_rfl, ?_⟩) (by assumption) ?_
    rotate_left
    · intro wS hSw
      go_simp
      try (with_reducible rfl)
    try simp only [List.getElem_toArray, List.getElem_cons_succ, List.getElem_cons_zero, Act.put, List.setIfInBounds_toArray, List.set_cons_zero, List.set_cons_succ]
    refine wpAnyH_ready (rs := [10]) (by kernel_rfl) (by simp) ?_
    refine AllReadyH.cons rfl (fun K hK => ?_) AllReadyH.nil
    go_simp
    refine hK.out _ _ trivial (fun hHeld => ?_)
    clear hK K
    try simp only [List.getElem_toArray, List.getElem_cons_succ, List.getElem_cons_zero, Act.put, List.setIfInBounds_toArray, List.set_cons_zero, List.set_cons_succ]
    refine wpAnyH_done (by kernel_rfl) ?_ _
    have HPM := Lib.hid (HE.out.2.1.below HP.out)
    have HQ := Lib.hid HE.out.1
    have HMV := Lib.hid HE.out.2.1
    clear HE c1 c2 hrd c0 c5 hm HR2
    generalize w1.setCell ⟨gp, 0, none⟩ (.slice a1 n1 k1) = W1 at *
    obtain ⟨v3, w3, hr3, d1, d2, q1, q2⟩ := HQ.out.str (Below.refl _ W1) ⟨#[0, 0]⟩ (by rw [List.length_append, bytes_size]; have := HRS.out; have e2 : (⟨#[0, 0]⟩ : ByteArray).size = 2 := rfl; omega)
    have d0 := HQ.out.c0
    have HE2 := Lib.hid (And.intro q1 q2)
    obtain ⟨a3, k3, hv3⟩ := q1.shape
    generalize (l ++ Order.bytes r ++ Order.bytes ⟨#[0, 0]⟩).length = n3 at *
    subst hv3
    have hrd3 := hr3 23
    clear hr3 q1 q2
    go_wp2_with (at_builtin; refine wpList_run_append rfl (.tmp 18) (.const (.string ⟨#[0, 0]⟩)) 23 9 rfl _ _ _ w3 rfl rfl hrd3 ?_)
    refine bodyPost_ret (results_none Tryd.results67 _ _ _) rfl ⟨rfl, _, ?_, HMV.out.trans HE2.out.2⟩
    have h9 := HE2.out.1
    rw [List.append_assoc, HEB2.out] at h9
    exact h9
end Go.Proofs.YtpklnhmhbaakhaaDoor
end
