/- Shelf, AppendSz, BsonBack, PathSplit, RegInv, SealRow, BsonForth, BytesStr, RegDet, Wrote, BsonMem. -/
import Derived.Shelf.Unicode.ValidAny
import Derived.Shelf.Small.Strs
import Derived.Shelf.Strconv.Itoa0
import Derived.Shelf.Strconv.Itoa1
import Derived.Shelf.LaysM
import Derived.Shelf.Strconv.Itoa2
import Derived.Shelf.Strconv.Itoa3
import Derived.Shelf.Strings.Search1
import Derived.Shelf.Slices.Turned
import Derived.Ground.SlbCloneProg
import Derived.Shelf.Bytes.SlClone
import Derived.Test.YtngllchoiffniaaDoorProg
import Derived.Laws.AppendOwn
import Derived.Lib.IndexBytes
import Derived.Lib.CutLaws
import Derived.Test.YtngllchoiffniaaDoorRows
import Derived.WalkKit
import Derived.Laws.CopyOwn
import Derived.Deep.Quiet
import Derived.Lib.Hide
import Derived.Laws.BitsAllLaws
import Derived.WalkLawsBesides
import Derived.Laws.BytesArg
import Derived.Test.YtngllchoiffniaaDoorMk0
set_option maxRecDepth 100000
set_option maxHeartbeats 20000000
section
namespace Go.Proofs
open Go.Shelf
open Go.RowKit in
def Tryd.lays106_ren : Go.Shelf.Ren := ⟨fun | 106 => 54 | 213 => 69 | 265 => 76 | n => n, fun | 9 => 9 | 3 => 3 | n => n, fun | n => n⟩
theorem Tryd.lays106 : Go.Proofs.Lays.n106 Tryd.prog Tryd.lays106_ren := {
 mixed := by kernel_rfl
 f106 := Tryd.func54.trans (congrArg some (by kernel_rfl))
 f213 := Tryd.func69.trans (congrArg some (by kernel_rfl))
 f265 := Tryd.func76.trans (congrArg some (by kernel_rfl))
 t3 := Tryd.underlying3
 a3 := Tryd.isAgg3
 z3 := Tryd.sizeOf3
 v3 := Tryd.zeroValue3
 t9 := Tryd.underlying9
 a9 := Tryd.isAgg9
 z9 := Tryd.sizeOf9
 v9 := Tryd.zeroValue9 }
open Go.RowKit in
theorem Tryd.strings_Compare (a b : ByteArray) (w : World) :
  Calls Tryd.prog 54 #[.string a, .string b] w fun e w' => e = .returned (.int .i64 (Lib.compareBytes a.data.toList b.data.toList)) ∧ w' = w := Any.strings_Compare Tryd.lays106 a b w
def Tryd.lays137_ren : Go.Shelf.Ren := ⟨fun | 137 => 81 | 217 => 88 | 266 => 91 | n => n, fun | 9 => 9 | 5 => 5 | 3 => 3 | n => n, fun | n => n⟩
theorem Tryd.lays137 : Go.Proofs.Lays.n137 Tryd.prog Tryd.lays137_ren := {
 mixed := by kernel_rfl
 f137 := Tryd.func81.trans (congrArg some (by kernel_rfl))
 f217 := Tryd.func88.trans (congrArg some (by kernel_rfl))
 f266 := Tryd.func91.trans (congrArg some (by kernel_rfl))
 t3 := Tryd.underlying3
 a3 := Tryd.isAgg3
 z3 := Tryd.sizeOf3
 v3 := Tryd.zeroValue3
 t5 := Tryd.underlying5
 a5 := Tryd.isAgg5
 z5 := Tryd.sizeOf5
 v5 := Tryd.zeroValue5
 t9 := Tryd.underlying9
 a9 := Tryd.isAgg9
 z9 := Tryd.sizeOf9
 v9 := Tryd.zeroValue9 }
open Go.RowKit in
theorem Tryd.strings_IndexByte (s : ByteArray) (c : Int) (w : World) :
  Calls Tryd.prog 81 #[.string s, .int .u8 c] w fun e w' => e = .returned (.int .i64 (Lib.indexByte s.data.toList c.toNat.toUInt8)) ∧ w' = w := Any.strings_IndexByte Tryd.lays137 s c w
open Go.Lib in
open Go.Lib in
open Go.Lib in
open Go.Lib in
open Go.RowKit Go.Sort Go.Lib in
open Go.RowKit Go.Sort Go.Lib in
open Go.RowKit Go.Sort Go.Lib in
open Go.RowKit Go.Sort Go.Lib in
open Go.RowKit Go.Sort Go.Lib in
def Tryd.laysM171_ren : Go.Shelf.Ren := ⟨fun | 171 => 44 | 243 => 60 | 246 => 71 | 283 => 77 | 284 => 78 | 285 => 79 | 286 => 80 | 129 => 84 | 317 => 83 | 318 => 85 | 319 => 86 | 320 => 87 | 337 => 89 | 338 => 90 | n => n, fun | 3 => 3 | 9 => 9 | 2 => 2 | 4 => 4 | 171 => 100 | 0 => 0 | 53 => 101 | 37 => 26 | 5 => 5 | 173 => 104 | 212 => 112 | 51 => 113 | 20 => 20 | 213 => 114 | 46 => 66 | 232 => 117 | 233 => 118 | n => n, fun | 17 => 4 | 18 => 5 | 19 => 6 | n => n⟩
theorem Tryd.laysM171 : Go.Proofs.LaysM.n171 Tryd.prog Tryd.laysM171_ren := {
 mixed := by kernel_rfl
 f129 := Tryd.func84.trans (congrArg some (by kernel_rfl))
 f171 := Tryd.func44.trans (congrArg some (by kernel_rfl))
 f243 := Tryd.func60.trans (congrArg some (by kernel_rfl))
 f246 := Tryd.func71.trans (congrArg some (by kernel_rfl))
 f283 := Tryd.func77.trans (congrArg some (by kernel_rfl))
 f284 := Tryd.func78.trans (congrArg some (by kernel_rfl))
 f285 := Tryd.func79.trans (congrArg some (by kernel_rfl))
 f286 := Tryd.func80.trans (congrArg some (by kernel_rfl))
 f317 := Tryd.func83.trans (congrArg some (by kernel_rfl))
 f318 := Tryd.func85.trans (congrArg some (by kernel_rfl))
 f319 := Tryd.func86.trans (congrArg some (by kernel_rfl))
 f320 := Tryd.func87.trans (congrArg some (by kernel_rfl))
 f337 := Tryd.func89.trans (congrArg some (by kernel_rfl))
 f338 := Tryd.func90.trans (congrArg some (by kernel_rfl))
 t0 := Tryd.underlying0
 a0 := Tryd.isAgg0
 z0 := Tryd.sizeOf0
 v0 := Tryd.zeroValue0
 t2 := Tryd.underlying2
 a2 := Tryd.isAgg2
 z2 := Tryd.sizeOf2
 v2 := Tryd.zeroValue2
 t3 := Tryd.underlying3
 a3 := Tryd.isAgg3
 z3 := Tryd.sizeOf3
 v3 := Tryd.zeroValue3
 t4 := Tryd.underlying4
 a4 := Tryd.isAgg4
 z4 := Tryd.sizeOf4
 v4 := Tryd.zeroValue4
 t5 := Tryd.underlying5
 a5 := Tryd.isAgg5
 z5 := Tryd.sizeOf5
 v5 := Tryd.zeroValue5
 t9 := Tryd.underlying9
 a9 := Tryd.isAgg9
 z9 := Tryd.sizeOf9
 v9 := Tryd.zeroValue9
 t20 := Tryd.underlying20
 a20 := Tryd.isAgg20
 z20 := Tryd.sizeOf20
 v20 := Tryd.zeroValue20
 t37 := Tryd.underlying26
 a37 := Tryd.isAgg26
 z37 := Tryd.sizeOf26
 v37 := Tryd.zeroValue26
 t46 := Tryd.underlying66
 a46 := Tryd.isAgg66
 z46 := Tryd.sizeOf66
 v46 := Tryd.zeroValue66
 t51 := Tryd.underlying113
 a51 := Tryd.isAgg113
 z51 := Tryd.sizeOf113
 v51 := Tryd.zeroValue113
 t53 := Tryd.underlying101
 a53 := Tryd.isAgg101
 z53 := Tryd.sizeOf101
 v53 := Tryd.zeroValue101
 t171 := Tryd.underlying100
 a171 := Tryd.isAgg100
 z171 := Tryd.sizeOf100
 v171 := Tryd.zeroValue100
 t173 := Tryd.underlying104
 a173 := Tryd.isAgg104
 z173 := Tryd.sizeOf104
 v173 := Tryd.zeroValue104
 t212 := Tryd.underlying112
 a212 := Tryd.isAgg112
 z212 := Tryd.sizeOf112
 v212 := Tryd.zeroValue112
 t213 := Tryd.underlying114
 a213 := Tryd.isAgg114
 z213 := Tryd.sizeOf114
 t232 := Tryd.underlying117
 a232 := Tryd.isAgg117
 z232 := Tryd.sizeOf117
 v232 := Tryd.zeroValue117
 t233 := Tryd.underlying118
 a233 := Tryd.isAgg118
 z233 := Tryd.sizeOf118
 v233 := Tryd.zeroValue118
 g17 := by kernel_rfl
 g18 := by kernel_rfl
 g19 := by kernel_rfl
 i0 := by kernel_rfl
 i2 := by kernel_rfl
 i3 := by kernel_rfl
 i4 := by kernel_rfl
 i5 := by kernel_rfl
 i9 := by kernel_rfl
 i20 := by kernel_rfl
 i37 := by kernel_rfl
 i46 := by kernel_rfl
 i51 := by kernel_rfl
 i53 := by kernel_rfl
 i171 := by kernel_rfl
 i173 := by kernel_rfl
 i212 := by kernel_rfl
 i232 := by kernel_rfl
 i233 := by kernel_rfl
 m17 := by kernel_rfl
 m18 := by kernel_rfl
 m19 := by kernel_rfl }
open Go.RowKit Go.Sort Go.Lib in
theorem Tryd.strconv_Itoa (n : Int) (h0 : -9223372036854775808 ≤ n) (h1 : n ≤ 9223372036854775807) (w : World) (htab : Lib.TabIs Tryd.prog w "internal/strconv.uint64pow10" .u64 Lib.pow10Tab) :
  Calls Tryd.prog 44 #[.int .i64 n] w fun e w' => e = .returned (.string ⟨(Lib.itoa n).toArray⟩) ∧ ∃ k os, w' = grow (w.drewN k) os := Any.strconv_Itoa Tryd.laysM171 n h0 h1 w htab
open Go.RowKit Go.Sort Go.Lib in
open Go.RowKit Go.Lib in
def Tryd.lays109_ren : Go.Shelf.Ren := ⟨fun | 109 => 26 | n => n, fun | 31 => 37 | 9 => 9 | 3 => 3 | 0 => 0 | 4 => 4 | n => n, fun | n => n⟩
theorem Tryd.lays109 : Go.Proofs.Lays.n109 Tryd.prog Tryd.lays109_ren := {
 mixed := by kernel_rfl
 f109 := Tryd.func26.trans (congrArg some (by kernel_rfl))
 t0 := Tryd.underlying0
 a0 := Tryd.isAgg0
 z0 := Tryd.sizeOf0
 v0 := Tryd.zeroValue0
 t3 := Tryd.underlying3
 a3 := Tryd.isAgg3
 z3 := Tryd.sizeOf3
 v3 := Tryd.zeroValue3
 t4 := Tryd.underlying4
 a4 := Tryd.isAgg4
 z4 := Tryd.sizeOf4
 v4 := Tryd.zeroValue4
 t9 := Tryd.underlying9
 a9 := Tryd.isAgg9
 z9 := Tryd.sizeOf9
 v9 := Tryd.zeroValue9
 t31 := Tryd.underlying37
 a31 := Tryd.isAgg37
 z31 := Tryd.sizeOf37
 v31 := Tryd.zeroValue37 }
open Go.Lib in
theorem Tryd.slices_Index_string (b off n c : Nat) (zs : List ByteArray) (x : ByteArray) (w : World) (hz : n ≤ zs.length) (hbig : n ≤ 9223372036854775807) (hc : ∀ j, j < zs.length → w.cell? ⟨b, off + j, none⟩ = some (.string (zs.getD j ByteArray.empty))) :
  Calls Tryd.prog 26 #[.slice (some ⟨b, off, none⟩) n c, .string x] w fun e w' => e = .returned (.int .i64 (Lib.idxOfS (zs.take n) x)) ∧ w' = w := Any.slices_Index_string Tryd.lays109 b off n c zs x w hz hbig hc
open Go.Lib in
def Tryd.laysSlK4_ren : Go.Shelf.Ren := ⟨fun | 4 => 36 | n => n, fun | 22 => 26 | 4 => 4 | 5 => 5 | n => n, fun | n => n⟩
theorem Tryd.laysSlK4 : Go.Proofs.SlLaysK.n4 Tryd.prog Tryd.laysSlK4_ren := {
 mixed := by kernel_rfl
 f4 := Tryd.func36.trans (congrArg some (by kernel_rfl))
 t4 := Tryd.underlying4
 a4 := Tryd.isAgg4
 z4 := Tryd.sizeOf4
 v4 := Tryd.zeroValue4
 t22 := Tryd.underlying26
 a22 := Tryd.isAgg26
 z22 := Tryd.sizeOf26
 v22 := Tryd.zeroValue26
 t5 := Tryd.underlying5
 i5 := by kernel_rfl }
open Go.RowKit Go.Lib in
theorem Tryd.bytes_Clone_at (a : Addr) (n c : Nat) (xs : List Int) (w : World) (hx : xs.length = n) (hbig : n ≤ 140737488355328) (hc : ∀ i, i < n → w.cell? (a.add i) = some (.int .u8 (xs.getD i 0))) :
  Calls Tryd.prog 36 #[.slice (some a) n c] w fun e w' => ∃ v', e = .returned v' ∧ w'.ownsRow w.heap.size 5 1 v' n (xs.map (Value.int .u8)) ∧ v' ≠ .slice none 0 0 ∧ Below w.heap.size w w' := Any.bytes_Clone_at Tryd.laysSlK4 a n c xs w hx hbig hc
open Go.RowKit Go.Lib in
theorem Tryd.bytes_Clone_nil (n c : Nat) (w : World) :
  Calls Tryd.prog 36 #[.slice none n c] w fun e w' => e = .returned (.slice none 0 0) ∧ w' = w := Any.bytes_Clone_nil Tryd.laysSlK4 n c w
def Tryd.lays196_ren : Go.Shelf.Ren := ⟨fun | 196 => 64 | 259 => 73 | n => n, fun | 9 => 9 | 4 => 4 | 3 => 3 | 5 => 5 | 12 => 12 | 119 => 92 | 0 => 0 | 46 => 66 | 139 => 95 | 138 => 94 | 53 => 101 | n => n, fun | 3 => 1 | 4 => 2 | n => n⟩
theorem Tryd.lays196 : Go.Proofs.Lays.n196 Tryd.prog Tryd.lays196_ren := {
 mixed := by kernel_rfl
 f196 := Tryd.func64.trans (congrArg some (by kernel_rfl))
 f259 := Tryd.func73.trans (congrArg some (by kernel_rfl))
 t0 := Tryd.underlying0
 a0 := Tryd.isAgg0
 z0 := Tryd.sizeOf0
 v0 := Tryd.zeroValue0
 t3 := Tryd.underlying3
 a3 := Tryd.isAgg3
 z3 := Tryd.sizeOf3
 v3 := Tryd.zeroValue3
 t4 := Tryd.underlying4
 a4 := Tryd.isAgg4
 z4 := Tryd.sizeOf4
 v4 := Tryd.zeroValue4
 t5 := Tryd.underlying5
 a5 := Tryd.isAgg5
 z5 := Tryd.sizeOf5
 v5 := Tryd.zeroValue5
 t9 := Tryd.underlying9
 a9 := Tryd.isAgg9
 z9 := Tryd.sizeOf9
 v9 := Tryd.zeroValue9
 t12 := Tryd.underlying12
 a12 := Tryd.isAgg12
 z12 := Tryd.sizeOf12
 v12 := Tryd.zeroValue12
 t46 := Tryd.underlying66
 a46 := Tryd.isAgg66
 z46 := Tryd.sizeOf66
 v46 := Tryd.zeroValue66
 t53 := Tryd.underlying101
 a53 := Tryd.isAgg101
 z53 := Tryd.sizeOf101
 v53 := Tryd.zeroValue101
 t119 := Tryd.underlying92
 a119 := Tryd.isAgg92
 z119 := Tryd.sizeOf92
 t138 := Tryd.underlying94
 a138 := Tryd.isAgg94
 z138 := Tryd.sizeOf94
 v138 := Tryd.zeroValue94
 t139 := Tryd.underlying95
 a139 := Tryd.isAgg95
 z139 := Tryd.sizeOf95
 v139 := Tryd.zeroValue95
 g3 := by kernel_rfl
 g4 := by kernel_rfl }
open Go.RowKit in
theorem Tryd.utf8_ValidString (s : ByteArray) (w : World) (hs : s.size ≤ 9223372036854775807) (hT : Lib.Utf8Tabs 1 2 w) :
  Calls Tryd.prog 64 #[.string s] w fun e w' => e = .returned (.bool (Lib.validD s.data.toList)) ∧ Below w.heap.size w w' := Any.utf8_ValidString Tryd.lays196 s w hs hT
end Go.Proofs
end
section
namespace Go.Proofs.YtngllchoiffniaaDoor
open Go.RowKit
section
variable {P : Program} (w : World)
theorem run_append_sz (base : Nat) (t ty e : TypeId) (i : TypeInfo) (z : Value) (size bytes : Nat) (ht : P.underlying t = some (.slice e)) (hi : P.info? e = some i) (hz : i.zero = some z)
  (hsize : i.size = size) (hby : i.bytes = bytes) (hzs : z.cells.size = size) (v : Value) (n : Nat) (xs : List Value) (hown : w.ownsRow base e size v n xs)
  (a : Addr) (m c : Nat) (news : List Value) (hl : news.length = m * size) (hm : 0 < m) (_ : 0 < size) (hnews : ∀ j u, news[j]? = some u → w.cell? (a.add j) = some u) (h1 : ∀ u ∈ news, u.oneCell' = true)
  (h63 : n + m ≤ maxLen) (hbytes : (n + m) * bytes ≤ 140737488355328) (hbase : base ≤ w.heap.size) :
  ∃ v' w', (Builtin.append_ #[t, t] ty #[v, .slice (some a) m c]).run P w = .ok v' w' ∧ w'.ownsRow base e size v' (n + m) (xs ++ news) ∧ Lies w w' v v' := by
 subst hby
 have hsmall : n + m ≤ 9223372036854775807 := by simp only [maxLen] at h63; omega
 have hxl : xs.length = n * size := hown.1
 have grown : ∀ (old : Nat), old < n + m →
   (w.drew.alloc (.cells (xs.toArray ++ news.toArray ++ Builtin.zeroCells z.cells (grownCap w (n + m) old e - (n + m))) e)).ownsRow base e size
    (.slice (some ⟨w.heap.size, 0, none⟩) (n + m) (grownCap w (n + m) old e)) (n + m) (xs ++ news) ∧
   w.grownBy (w.drew.alloc (.cells (xs.toArray ++ news.toArray ++ Builtin.zeroCells z.cells (grownCap w (n + m) old e - (n + m))) e)) none := by
  intro old ho
  have hge := grownCap_ge w (n + m) old e
  have hcm : grownCap w (n + m) old e ≤ maxLen := grownCap_le_maxLen w (n + m) old e h63
  have e1 : (xs ++ news).length = (n + m) * size := by rw [List.length_append, hxl, hl, Nat.add_mul]
  refine ⟨⟨e1, .inr ⟨w.heap.size, _, _, rfl, hbase, heap_alloc_new w.drew _, hge, hcm, ?_, ?_⟩⟩, ⟨rfl, rfl, rfl, by simp, fun k hk _ => Below.heap_alloc w.drew _ k hk⟩⟩
  ·simp only [Array.size_append, List.size_toArray, size_zeroCells, hzs]
   rw [hxl, hl, ← Nat.add_mul, ← Nat.add_mul]
   congr 1; omega
  ·simp only [Array.toList_append, List.append_assoc]
   rw [← List.append_assoc]
   exact List.take_left' e1
 rcases hown.2 with ⟨rfl, rfl⟩ | ⟨g, cap, cur, rfl, hbg, hg, hnc, hcm, hcs, htake⟩
 ·have hx : xs = [] := List.eq_nil_of_length_eq_zero (by omega)
  subst hx
  have hr := run_append_nil (P := P) w t ty e i z ht hi hz a m c news (by rw [hsize]; exact hl) hnews hm (by omega) (by have hb := hbytes; simp only [Nat.zero_add] at hb; omega)
  have hgr := grown 0 (by omega)
  simp only [Nat.zero_add, List.nil_append, Array.empty_append] at hgr ⊢
  exact ⟨_, _, hr, hgr.1, .inr ⟨rfl, hgr.2⟩⟩
 ·by_cases hroom : n + m ≤ cap
  ·obtain ⟨w', hr, h2, h3⟩ := run_append_fits (P := P) w base t ty e i size ht hi hsize g n cap xs hown a m c news hl hnews h1 hroom
   exact ⟨_, w', hr, h2, .inl ⟨rfl, h3⟩⟩
  ·have holds : ∀ j u, xs[j]? = some u → w.cell? ((⟨g, 0, none⟩ : Addr).add j) = some u := hown.cells (g := g) rfl
   have hr := run_append_grow (P := P) w t ty e i z ht hi hz ⟨g, 0, none⟩ n cap xs (by rw [hsize]; exact hxl) holds a m c news (by rw [hsize]; exact hl) hnews (by omega) (by omega) (growslice_fits (by omega) hbytes)
   have hgr := grown cap (by omega)
   exact ⟨_, _, hr, hgr.1, .inr ⟨rfl, hgr.2⟩⟩
end
end Go.Proofs.YtngllchoiffniaaDoor
end
section
namespace Bson
open Go
/-! what was read makes the bytes that it was read from -/
/-! digits -/
theorem wrap_length (l : List Nat) : (wrap l).length = l.length + 5 := by simp [wrap, leI_length]; omega
end Bson
end
section
namespace Go.Proofs.YtngllchoiffniaaDoor
open Go
namespace Path
def split : List UInt8 → List (List UInt8)
 | [] => [[]]
 | c :: r => if c = 46 then [] :: split r else (c :: (split r).headD []) :: (split r).tail
theorem split_ne (s : List UInt8) : split s ≠ [] := by
 cases s with
 | nil => simp [split]
 | cons c r => unfold split; split <;> simp
def may (x : List UInt8) : Bool := (!x.isEmpty) && (x.headD 0 != 36) && decide (x.length ≤ 120) && decide (0 ∉ x) && Lib.validD x
def parse (s : List UInt8) : Option (List (List UInt8)) := if (split s).all may = true ∧ (split s).length ≤ 16 then some (split s) else none
end Path
end Go.Proofs.YtngllchoiffniaaDoor
end
section
namespace Go.Proofs.YtngllchoiffniaaDoor
open Go.RowKit
def setD (D : Nat → Bool) (i : Nat) : Nat → Bool := fun j => if j = i then true else D j
section
variable {P : Program} {Q : Exit → Act → World → Prop} {md : Region.Mode}
def InvStep (P : Program) (md : Region.Mode) (ops : Array Oper) (Q : Exit → Act → World → Prop) (A : (Nat → Value) → Act) (I : (Nat → Bool) → (Nat → Value) → World → Prop) (i : Nat) (o : Oper) : Prop :=
 ∀ (D : Nat → Bool) (V : Nat → Value) (w : World), D i = false → (∀ j, (o.after.any fun e => Region.binds md e && e.on == j) = true → D j = true) → I D V w →
  ∀ K : Act → World → Prop, (∀ a' v w', (A V).put o.dst v = a' → I (setD D i) (upd V i v) w' → K a' w') →
  if Region.wanted o (yielded ops (A V).tmps) = true then Oper.wp P o (A V) w K Q else K ((A V).put o.dst undef) w
def InvSteps (P : Program) (md : Region.Mode) (ops : Array Oper) (Q : Exit → Act → World → Prop) (A : (Nat → Value) → Act) (I : (Nat → Bool) → (Nat → Value) → World → Prop) : List Oper → Nat → Prop
 | [], _ => True
 | o :: r, i => InvStep P md ops Q A I i o ∧ InvSteps P md ops Q A I r (i + 1)
theorem InvSteps.at {ops : Array Oper} {A : (Nat → Value) → Act} {I : (Nat → Bool) → (Nat → Value) → World → Prop} : ∀ {r : List Oper} {k i : Nat} {o : Oper}, InvSteps P md ops Q A I r k → r[i]? = some o → InvStep P md ops Q A I (k + i) o
 | [], _, _, _, _, h => by simp at h
 | x :: r, k, 0, o, hs, h => by
  obtain rfl : x = o := by simpa using h
  exact hs.1
 | x :: r, k, i + 1, o, hs, h => by
  have := InvSteps.at (r := r) (k := k + 1) (i := i) hs.2 (by simpa using h)
  rwa [show k + 1 + i = k + (i + 1) by omega] at this
theorem inv_any {l : List Oper} {A : (Nat → Value) → Act} {I : (Nat → Bool) → (Nat → Value) → World → Prop} (hb : backB md l 0 = true)
  (hA : ∀ V i o v, l[i]? = some o → (A V).put o.dst v = A (upd V i v)) (hs : InvSteps P md l.toArray Q A I l 0)
  (hend : ∀ D V w, (∀ j, j < l.length → D j = true) → I D V w → Q .normal (A V) w) :
  ∀ (fuel : Nat) (listed : Array Bool) (V : Nat → Value) (w : World), listed.size = l.length → unl listed l.length ≤ fuel →
   I (fun j => listed.getD j false) V w → wpAny P md l.toArray Q fuel listed (A V) w := by
 have full : ∀ (listed : Array Bool), Region.ready md l.toArray listed = [] → ∀ n j, j < n → j < l.length → listed.getD j true = true := by
  intro listed hr n
  induction n with
  | zero => intro j h; omega
  | succ n ih =>
   intro j hj hl
   by_cases e : listed.getD j true = true
   ·exact e
   ·exfalso
    have ho : l[j]? = some l[j] := List.getElem?_eq_getElem hl
    have : j ∈ Region.ready md l.toArray listed := by
     refine mem_ready.2 ⟨by simpa using e, l[j], by simp, fun e' he' hb' => ?_⟩
     have hlt := back_spec md l 0 j _ hb ho e' he' hb'
     have h1 := ih e'.on (by omega) (by omega)
     by_cases hs : e'.on < listed.size
     ·simp [hs] at h1 ⊢; exact h1
     ·exfalso
      apply e
      have : ¬ j < listed.size := by omega
      simp [this]
    rw [hr] at this
    cases this
 have done : ∀ (listed : Array Bool) (V : Nat → Value) (w : World), listed.size = l.length → (∀ j, j < l.length → listed.getD j true = true) →
   I (fun j => listed.getD j false) V w → Q .normal (A V) w := fun listed V w hz hall hI => hend _ V w (fun j hj => by
    have := hall j hj
    have h2 : j < listed.size := by omega
    simp [h2] at this ⊢; exact this) hI
 intro fuel
 induction fuel with
 | zero =>
  intro listed V w hz hu hI
  have hall := unl_zero listed l.length (by omega)
  refine ⟨?_, done listed V w hz hall hI⟩
  cases hr : Region.ready md l.toArray listed with
  | nil => rfl
  | cons x xs =>
   have hx : x ∈ Region.ready md l.toArray listed := by rw [hr]; exact List.mem_cons_self
   obtain ⟨h0, o, ho, _⟩ := mem_ready.1 hx
   have hlt : x < l.length := by simpa using (Array.getElem?_eq_some_iff.1 ho).1
   rw [hall x hlt] at h0; cases h0
 | succ fuel ih =>
  intro listed V w hz hu hI
  refine ⟨fun hr => done listed V w hz (fun j hj => full listed hr (j + 1) j (by omega) hj) hI, fun i hi => ?_⟩
  obtain ⟨h0, o, ho, hall⟩ := mem_ready.1 hi
  have ho' : l[i]? = some o := by simpa using ho
  have hlt : i < l.length := (List.getElem?_eq_some_iff.1 ho').1
  have hstep := InvSteps.at (k := 0) (i := i) hs ho'
  rw [Nat.zero_add] at hstep
  have hls : i < listed.size := by omega
  have h1 := hstep (fun j => listed.getD j false) V w (by simp [hls] at h0 ⊢; exact h0) (fun j hj => by
   obtain ⟨e, he, hb2⟩ := Array.any_eq_true'.1 hj
   simp only [Bool.and_eq_true, beq_iff_eq] at hb2
   rw [← hb2.2]; exact hall e he hb2.1) hI (wpAny P md l.toArray Q fuel (listed.setIfInBounds i true)) (fun a' v w' ha hI' => by
    rw [← ha, hA V i o v ho']
    refine ih _ _ _ (by simpa using hz) (by have := unl_set_lt listed i h0 l.length hlt; omega) ?_
    have e : (fun j => (listed.setIfInBounds i true).getD j false) = setD (fun j => listed.getD j false) i := by
     funext j
     by_cases e : j = i
     ·subst e; simp [setD, hls]
     ·rw [getD_set_ne false (Ne.symm e), setD, if_neg e]
    rw [e]; exact hI')
  unfold wpOp
  simp only [ho]
  split
  ·rename_i hw
   rw [if_pos hw] at h1
   exact .inl h1
  ·rename_i hw
   rw [if_neg hw] at h1
   exact h1
theorem wp_region_inv {id : Nat} {a : Act} {w : World} {l : List Oper} (A : (Nat → Value) → Act) (I : (Nat → Bool) → (Nat → Value) → World → Prop) (hm : P.follows .mixedOrders = true) (hb : backB .any l 0 = true)
  (hn : nodupB (l.map (·.dst)) = true) (hA : ∀ V, putAll a V (l.map (·.dst)) 0 = A V) (hs : InvSteps P .any l.toArray Q A I l 0)
  (h0 : ∀ V, I (fun _ => false) V { w with drawn := w.drawn + 1 })
  (hend : ∀ D V w', (∀ j, j < l.length → D j = true) → I D V w' → Q .normal (A V) w') : (Code.region id l.toArray true).wp P Q a w := by
 refine wp_region_any hm ?_
 have e0 : a = A (own0 a (l.map (·.dst))) := by
  rw [← hA, putAll_own]
  intro i d hi
  rw [Nat.zero_add, own0, hi]
 have h := inv_any (I := I) hb (fun V i o v ho => by
   rw [← hA, ← hA]
   have := putAll_upd (V := V) v (l.map (·.dst)) 0 i o.dst a hn (by rw [List.getElem?_map, ho]; rfl)
   rwa [Nat.zero_add] at this) hs hend l.toArray.size (Array.replicate l.toArray.size false) (own0 a (l.map (·.dst))) { w with drawn := w.drawn + 1 } (by simp) (by simpa using unl_le _ l.length)
   (by
    have e : (fun j => (Array.replicate l.toArray.size false).getD j false) = fun _ => false := by
     funext j
     by_cases h : j < l.length
     ·simp [h]
     ·simp [h]
    rw [e]; exact h0 _)
 rw [← e0] at h
 exact h
end
structure OFact where
 own : Bool
 p : Value → Nat → World → Prop
def OFact.any : OFact := ⟨false, fun _ _ _ => True⟩
section
variable {P : Program} {Q : Exit → Act → World → Prop} {md : Region.Mode}
end
section
variable {P : Program} {Q : Exit → Act → World → Prop} {md : Region.Mode}
theorem inv_free {ops : Array Oper} {A : (Nat → Value) → Act} {I : (Nat → Bool) → (Nat → Value) → World → Prop} {i : Nat} {o : Oper} (hg : o.guard = none)
  (h : ∀ (D : Nat → Bool) (V : Nat → Value) (w : World), D i = false → Shut (∀ j, (o.after.any fun e => Region.binds md e && e.on == j) = true → D j = true) → I D V w →
   ∀ K : Act → World → Prop, Shut (∀ v w', I (setD D i) (upd V i v) w' → K ((A V).put o.dst v) w') → Oper.wp P o (A V) w K Q) : InvStep P md ops Q A I i o := by
 intro D V w hDi hpre hI K hK
 rw [if_pos (show Region.wanted o (yielded ops (A V).tmps) = true by simp [Region.wanted, hg])]
 exact h D V w hDi hpre hI K (fun v w' h1 => hK _ v w' rfl h1)
end
end Go.Proofs.YtngllchoiffniaaDoor
end
section
namespace Go.Proofs.YtngllchoiffniaaDoor
open Go.RowKit
open Seal
def u8 (n : Nat) : Value := .int .u8 (n : Int)
def u8s (l : List Nat) : List Value := l.map u8
def Row (w : World) (g : Nat) (l : List Nat) : Prop := w.heap[g]? = some (.cells (u8s l).toArray 5 (0, 0))
theorem Row.cell {w : World} {g : Nat} {l : List Nat} (h : Row w g l) {j : Nat} (hj : j < l.length) : w.cell? ⟨g, j, none⟩ = some (.int .u8 ((l.getD j 0 : Nat) : Int)) := by
 rw [cell_of_row w g j _ _ _ h]
 simp [u8s, u8, List.getElem?_eq_getElem hj, List.getD_eq_getElem?_getD]
theorem Row.frozen {w : World} {g : Nat} {l : List Nat} (h : Row w g l) (j : Nat) : w.frozen? ⟨g, j, none⟩ = false := frozen_of_row w g j _ _ h
theorem Row.lt {w : World} {g : Nat} {l : List Nat} (h : Row w g l) : g < w.heap.size := by
 by_cases hg : g < w.heap.size
 ·exact hg
 ·unfold Row at h; rw [Array.getElem?_eq_none (by omega)] at h; simp at h
theorem Row.set {w : World} {g : Nat} {l : List Nat} (h : Row w g l) (j v : Nat) : Row (w.setCell ⟨g, j, none⟩ (.int .u8 (v : Int))) g (l.set j v) := by
 unfold Row
 rw [heap_setCell_same w g j _ _ _ h]
 simp [u8s, u8, List.map_set]
theorem Row.same {w w' : World} {g : Nat} {l : List Nat} (h : Row w g l) (e : w'.heap[g]? = w.heap[g]?) : Row w' g l := e.trans h
theorem Row.drew {w : World} {g : Nat} {l : List Nat} (h : Row w g l) : Row w.drew g l := h
theorem Row.made {w : World} (n : Nat) : Row (w.alloc (.cells (madeCells #[.int .u8 0] n) 5)) w.heap.size (List.replicate n 0) := by
 unfold Row
 rw [heap_alloc_new w _]
 have : (madeCells #[Value.int .u8 0] n) = (u8s (List.replicate n 0)).toArray := by
  apply Array.toList_inj.1
  rw [toList_madeCells_one]; simp [u8s, u8]
 rw [this]
theorem Row.below {w w' : World} {g B : Nat} {l : List Nat} (h : Row w g l) (hb : Below B w w') (hg : g < B) : Row w' g l := h.same (hb.block g hg)
theorem Row.inj {w : World} {g : Nat} {l m : List Nat} (h : Row w g l) (k : Row w g m) : l = m := by
 have e : (u8s l) = (u8s m) := by
  have := h.symm.trans k
  simpa using this
 unfold u8s at e
 refine (List.map_inj_right ?_).1 e
 intro x y hxy
 simp [u8] at hxy; omega
def Reads (w : World) (b off : Nat) (l : List Nat) : Prop := ∀ j, j < l.length → w.cell? ⟨b, off + j, none⟩ = some (.int .u8 ((l.getD j 0 : Nat) : Int))
theorem Row.reads {w : World} {g : Nat} {l : List Nat} (h : Row w g l) (off n : Nat) (hn : off + n ≤ l.length) : Reads w g off ((l.drop off).take n) := by
 intro j hj
 simp at hj
 rw [h.cell (by omega)]
 simp [List.getD_eq_getElem?_getD, show j < n by omega]
theorem Reads.below {w w' : World} {b off B : Nat} {l : List Nat} (h : Reads w b off l) (hb : Below B w w') (hg : b < B) : Reads w' b off l :=
 fun j hj => (hb.cell (p := ⟨b, off + j, none⟩) hg).trans (h j hj)
theorem Reads.drewN {w : World} {b off : Nat} {l : List Nat} (h : Reads w b off l) (n : Nat) : Reads (w.drewN n) b off l := fun j hj => by rw [World.cell?_drewN]; exact h j hj
theorem grown_setCell {w wr : World} {g : Nat} (h : w.grownBy wr (some g)) (j : Nat) (u : Value) : w.grownBy (wr.setCell ⟨g, j, none⟩ u) (some g) :=
 ⟨h.os, h.tape, h.output, by simpa using h.size, fun k hk hne => (heap_setCell_other wr ⟨g, j, none⟩ k u (fun e => hne (by simp [e]))).trans (h.block k hk hne)⟩
def SliceIs (w : World) (a : Option Addr) (l : List Nat) : Prop := l = [] ∨ ∃ b off, a = some ⟨b, off, none⟩ ∧ Reads w b off l
theorem SliceIs.below {w w' : World} {a : Option Addr} {B : Nat} {l : List Nat} (h : SliceIs w a l) (hb : Below B w w') (hB : ∀ p, a = some p → p.block < B) : SliceIs w' a l := by
 rcases h with h | ⟨b, off, rfl, h⟩
 ·exact .inl h
 ·exact .inr ⟨b, off, rfl, h.below hb (hB _ rfl)⟩
theorem SliceIs.drewN {w : World} {a : Option Addr} {l : List Nat} (h : SliceIs w a l) (n : Nat) : SliceIs (w.drewN n) a l := h.imp id fun ⟨b, off, e, h⟩ => ⟨b, off, e, h.drewN n⟩
theorem Reads.keep {w w' : World} {b off : Nat} {l : List Nat} (h : Reads w b off l) (hb : Below w.heap.size w w') : Reads w' b off l :=
 fun j hj => (hb.cell (p := ⟨b, off + j, none⟩) (World.block_lt_of_cell? w _ (h j hj))).trans (h j hj)
theorem SliceIs.keep {w w' : World} {a : Option Addr} {l : List Nat} (h : SliceIs w a l) (hb : Below w.heap.size w w') : SliceIs w' a l :=
 h.imp id fun ⟨b, off, e, h⟩ => ⟨b, off, e, h.keep hb⟩
end Go.Proofs.YtngllchoiffniaaDoor
end
section
namespace Bson
open Go
theorem row_cons {e : Val → Option (List Nat)} {s : ByteArray} {v : Val} {fs : List (ByteArray × Val)} {bs : List Nat} (h : row e ((s, v) :: fs) = some bs) :
  ∃ x y, nameMay s = true ∧ e v = some x ∧ row e fs = some y ∧ bs = code v.kind :: (bytes s ++ (0 :: (x ++ y))) := by
 rw [row] at h
 cases h1 : nameMay s with
 | false => rw [h1] at h; simp at h
 | true =>
  cases h2 : e v with
  | none => rw [h1, h2] at h; simp at h
  | some x =>
   cases h3 : row e fs with
   | none => rw [h1, h2, h3] at h; simp at h
   | some y =>
    rw [h1, h2, h3] at h
    injection h with h
    exact ⟨x, y, rfl, rfl, rfl, h.symm⟩
theorem named_length (l : List Val) : (named l).length = l.length := by simp [named]
end Bson
end
section
namespace Go.Proofs.YtngllchoiffniaaDoor
open Go.RowKit
open Seal
def strB (l : List Nat) : ByteArray := ⟨(l.map UInt8.ofNat).toArray⟩
end Go.Proofs.YtngllchoiffniaaDoor
end
section
namespace Go.Proofs.YtngllchoiffniaaDoor
open Go.RowKit
def DInv (Vc : List Value) (Ph : (Nat → Bool) → World → Prop) (D : Nat → Bool) (V : Nat → Value) (w : World) : Prop := (∀ i, D i = true → V i = Vc.getD i undef) ∧ Ph D w
def yes : Value → Option Bool
 | .bool b => some b
 | _ => none
section
variable {P : Program} {Q : Exit → Act → World → Prop} {md : Region.Mode} {ops : Array Oper} {A : (Nat → Value) → Act} {Vc : List Value} {Ph : (Nat → Bool) → World → Prop} {i : Nat} {o : Oper}
theorem wp_region_inv0 {id : Nat} {a : Act} {w : World} {l : List Oper} (A : (Nat → Value) → Act) (I : (Nat → Bool) → (Nat → Value) → World → Prop) (hm : P.follows .mixedOrders = true) (hb : backB .any l 0 = true)
  (hn : nodupB (l.map (·.dst)) = true) (hA : ∀ V, putAll a V (l.map (·.dst)) 0 = A V) (hs : InvSteps P .any l.toArray Q A I l 0)
  (h0 : I (fun _ => false) (own0 a (l.map (·.dst))) { w with drawn := w.drawn + 1 })
  (hend : ∀ D V w', (∀ j, j < l.length → D j = true) → I D V w' → Q .normal (A V) w') : (Code.region id l.toArray true).wp P Q a w := by
 refine wp_region_any hm ?_
 have e0 : a = A (own0 a (l.map (·.dst))) := by
  rw [← hA, putAll_own]
  intro i d hi
  rw [Nat.zero_add, own0, hi]
 have h := inv_any (I := I) hb (fun V i o v ho => by
   rw [← hA, ← hA]
   have := putAll_upd (V := V) v (l.map (·.dst)) 0 i o.dst a hn (by rw [List.getElem?_map, ho]; rfl)
   rwa [Nat.zero_add] at this) hs hend l.toArray.size (Array.replicate l.toArray.size false) (own0 a (l.map (·.dst))) { w with drawn := w.drawn + 1 } (by simp) (by simpa using unl_le _ l.length)
   (by
    have e : (fun j => (Array.replicate l.toArray.size false).getD j false) = fun _ => false := by
     funext j
     by_cases h : j < l.length
     ·simp [h]
     ·simp [h]
    rw [e]; exact h0)
 rw [← e0] at h
 exact h
theorem DInv.next {D : Nat → Bool} {V : Nat → Value} {w w' : World} (h : DInv Vc Ph D V w) (v : Value) (hv : v = Vc.getD i undef) (hp : Ph (setD D i) w') : DInv Vc Ph (setD D i) (upd V i v) w' := by
 refine ⟨fun j hj => ?_, hp⟩
 unfold setD at hj
 unfold upd
 by_cases e : j = i
 ·subst e; rw [if_pos rfl]; exact hv
 ·rw [if_neg e] at hj; rw [if_neg e]; exact h.1 j hj
theorem det_free (hg : o.guard = none)
  (h : ∀ (D : Nat → Bool) (V : Nat → Value) (w : World), D i = false → Shut (∀ j, (o.after.any fun e => Region.binds md e && e.on == j) = true → D j = true ∧ V j = Vc.getD j undef) → Ph D w →
   ∀ K : Act → World → Prop, Shut (∀ w', Ph (setD D i) w' → K ((A V).put o.dst (Vc.getD i undef)) w') → Oper.wp P o (A V) w K Q) : InvStep P md ops Q A (DInv Vc Ph) i o := by
 intro D V w hDi hpre hI K hK
 rw [if_pos (show Region.wanted o (yielded ops (A V).tmps) = true by simp [Region.wanted, hg])]
 exact h D V w hDi (fun j hj => ⟨hpre j hj, hI.1 j (hpre j hj)⟩) hI.2 K (fun w' hp => hK _ _ w' rfl (hI.next _ rfl hp))
theorem det_on (j : Nat) (b : Bool) (hg : o.guard = some (j, b)) (ha : (o.after.any fun e => Region.binds md e && e.on == j) = true) (hy : ∀ V, yielded ops (A V).tmps j = yes (V j)) (hv : Vc.getD j undef = .bool b)
  (h : ∀ (D : Nat → Bool) (V : Nat → Value) (w : World), D i = false → Shut (∀ j, (o.after.any fun e => Region.binds md e && e.on == j) = true → D j = true ∧ V j = Vc.getD j undef) → Ph D w →
   ∀ K : Act → World → Prop, Shut (∀ w', Ph (setD D i) w' → K ((A V).put o.dst (Vc.getD i undef)) w') → Oper.wp P o (A V) w K Q) : InvStep P md ops Q A (DInv Vc Ph) i o := by
 intro D V w hDi hpre hI K hK
 have e : V j = .bool b := (hI.1 j (hpre j ha)).trans hv
 rw [if_pos (show Region.wanted o (yielded ops (A V).tmps) = true by simp [Region.wanted, hg, hy, e, yes])]
 exact h D V w hDi (fun j hj => ⟨hpre j hj, hI.1 j (hpre j hj)⟩) hI.2 K (fun w' hp => hK _ _ w' rfl (hI.next _ rfl hp))
theorem det_off (j : Nat) (b : Bool) (hg : o.guard = some (j, b)) (ha : (o.after.any fun e => Region.binds md e && e.on == j) = true) (hy : ∀ V, yielded ops (A V).tmps j = yes (V j)) (hv : Vc.getD j undef = .bool (!b)) (hu : Vc.getD i undef = undef)
  (h : ∀ (D : Nat → Bool) (w : World), D i = false → Shut (∀ j, (o.after.any fun e => Region.binds md e && e.on == j) = true → D j = true) → Ph D w → Ph (setD D i) w) : InvStep P md ops Q A (DInv Vc Ph) i o := by
 intro D V w hDi hpre hI K hK
 have e : V j = .bool (!b) := (hI.1 j (hpre j ha)).trans hv
 rw [if_neg (show ¬ Region.wanted o (yielded ops (A V).tmps) = true by simp [Region.wanted, hg, hy, e, yes])]
 exact hK _ undef w rfl (hI.next _ hu.symm (h D w hDi hpre hI.2))
end
end Go.Proofs.YtngllchoiffniaaDoor
end
section
namespace Go.Proofs.YtngllchoiffniaaDoor
open Go.RowKit
def Wrote (w w' : World) (v v' : Value) : Prop := w.grownBy w' v.ownBlock ∧ (v'.ownBlock = v.ownBlock ∨ ∃ g, v'.ownBlock = some g ∧ w.heap.size ≤ g)
theorem Wrote.of_lies {w w' : World} {v v' : Value} (h : Lies w w' v v') : Wrote w w' v v' := by
 rcases h with ⟨h1, h2⟩ | ⟨h1, h2⟩
 ·exact ⟨h2, .inl h1⟩
 ·exact ⟨⟨h2.os, h2.tape, h2.output, h2.size, fun g hg _ => h2.block g hg nofun⟩, .inr ⟨_, h1, Nat.le_refl _⟩⟩
theorem Wrote.refl (w : World) (v : Value) : Wrote w w v v := ⟨World.grownBy.refl w _, .inl rfl⟩
theorem Wrote.below {w w' w2 : World} {v v' : Value} (h : Wrote w w' v v') (hb : Below w'.heap.size w' w2) : Wrote w w2 v v' :=
 ⟨⟨hb.os.trans h.1.os, hb.tape.trans h.1.tape, hb.output.trans h.1.output, Nat.le_trans h.1.size hb.size, fun g hg hne => (hb.block g (Nat.lt_of_lt_of_le hg h.1.size)).trans (h.1.block g hg hne)⟩, h.2⟩
theorem Wrote.of_below {w w' w2 : World} {v v' : Value} (hb : Below w.heap.size w w') (h : Wrote w' w2 v v') : Wrote w w2 v v' :=
 ⟨⟨h.1.os.trans hb.os, h.1.tape.trans hb.tape, h.1.output.trans hb.output, Nat.le_trans hb.size h.1.size, fun g hg hne => (h.1.block g (Nat.lt_of_lt_of_le hg hb.size) hne).trans (hb.block g hg)⟩,
  by rcases h.2 with h2 | ⟨g, h2, h3⟩
     · exact .inl h2
     · exact .inr ⟨g, h2, Nat.le_trans hb.size h3⟩⟩
theorem Wrote.trans {w w1 w2 : World} {v v1 v2 : Value} (h : Wrote w w1 v v1) (h' : Wrote w1 w2 v1 v2) : Wrote w w2 v v2 := by
 refine ⟨⟨h'.1.os.trans h.1.os, h'.1.tape.trans h.1.tape, h'.1.output.trans h.1.output, Nat.le_trans h.1.size h'.1.size, fun g hg hne => ?_⟩, ?_⟩
 ·refine (h'.1.block g (Nat.lt_of_lt_of_le hg h.1.size) ?_).trans (h.1.block g hg hne)
  rcases h.2 with h2 | ⟨g2, h2, h3⟩
  ·rw [h2]; exact hne
  ·rw [h2]; intro e; have := Option.some.inj e; omega
 ·rcases h'.2 with h2 | ⟨g2, h2, h3⟩
  ·rw [h2]; exact h.2
  ·exact .inr ⟨g2, h2, Nat.le_trans h.1.size h3⟩
theorem owns_below {w w' : World} {base : Nat} {e : TypeId} {size : Nat} {v : Value} {n : Nat} {xs : List Value} (h : w.ownsRow base e size v n xs) (hb : Below w.heap.size w w') : w'.ownsRow base e size v n xs := by
 obtain ⟨h1, h2 | ⟨g, cap, cur, e, hg, hrow, h3⟩⟩ := h
 ·exact ⟨h1, .inl h2⟩
 ·exact ⟨h1, .inr ⟨g, cap, cur, e, hg, (hb.block g (Array.getElem?_eq_some_iff.1 hrow).1).trans hrow, h3⟩⟩
theorem owns_block {w : World} {base : Nat} {e : TypeId} {size : Nat} {v : Value} {n : Nat} {xs : List Value} (h : w.ownsRow base e size v n xs) {g : Nat} (hg : v.ownBlock = some g) : base ≤ g ∧ g < w.heap.size := by
 obtain ⟨_, ⟨rfl, _⟩ | ⟨b, cap, cur, rfl, hb, hrow, _⟩⟩ := h
 ·cases hg
 ·obtain rfl : b = g := Option.some.inj hg
  exact ⟨hb, (Array.getElem?_eq_some_iff.1 hrow).1⟩
theorem owns_same {w w' : World} {base : Nat} {e : TypeId} {size : Nat} {v : Value} {n : Nat} {xs : List Value} (h : w.ownsRow base e size v n xs) (hb : ∀ g, v.ownBlock = some g → w'.heap[g]? = w.heap[g]?) : w'.ownsRow base e size v n xs := by
 obtain ⟨h1, h2 | ⟨g, cap, cur, rfl, hg, hrow, h3⟩⟩ := h
 ·exact ⟨h1, .inl h2⟩
 ·exact ⟨h1, .inr ⟨g, cap, cur, rfl, hg, (hb g rfl).trans hrow, h3⟩⟩
end Go.Proofs.YtngllchoiffniaaDoor
end
section
namespace Go.Proofs.YtngllchoiffniaaDoor
open Go.RowKit
open Seal
open Bson (Val)
structure Lim (x : Val) : Prop where
 k0 : -9223372036854775808 ≤ x.kind
 k1 : x.kind ≤ 9223372036854775807
 n0 : -9223372036854775808 ≤ x.n
 n1 : x.n ≤ 9223372036854775807
 s : x.s.size ≤ 140737488355328
 b : x.b.length ≤ 140737488355328
 f : x.f.length ≤ 1172812402961
 l : x.l.length ≤ 1353245080339
 o : Oct x.b
def SixAt (w : World) (g p : Nat) (v : Value) : Prop := ∃ c0 c1 c2 c3 c4 c5, v = .agg #[c0, c1, c2, c3, c4, c5] ∧ w.cell? ⟨g, p, none⟩ = some c0 ∧ w.cell? ⟨g, p + 1, none⟩ = some c1 ∧ w.cell? ⟨g, p + 2, none⟩ = some c2 ∧ w.cell? ⟨g, p + 3, none⟩ = some c3 ∧ w.cell? ⟨g, p + 4, none⟩ = some c4 ∧ w.cell? ⟨g, p + 5, none⟩ = some c5
def BytesIn (w : World) (Q : Nat → Prop) (a : Option Addr) (l : List Nat) : Prop := l = [] ∨ ∃ g o, a = some ⟨g, o, none⟩ ∧ Q g ∧ Reads w g o l
def FieldsIn (w : World) (Q : Nat → Prop) (V : Val → Value → Prop) (a : Option Addr) (f : List (ByteArray × Val)) : Prop :=
 f = [] ∨ ∃ g o, a = some ⟨g, o, none⟩ ∧ Q g ∧ ∀ i (hi : i < f.length), w.cell? ⟨g, o + i * 7, none⟩ = some (.string f[i].1) ∧ f[i].1.size ≤ 140737488355328 ∧ ∃ v, SixAt w g (o + i * 7 + 1) v ∧ V f[i].2 v
def ItemsIn (w : World) (Q : Nat → Prop) (V : Val → Value → Prop) (a : Option Addr) (l : List Val) : Prop :=
 l = [] ∨ ∃ g o, a = some ⟨g, o, none⟩ ∧ Q g ∧ ∀ i (hi : i < l.length), ∃ v, SixAt w g (o + i * 6) v ∧ V l[i] v
def agg (x : Val) (ba fa la : Option Addr) (bc fc lc : Nat) : Value :=
 .agg #[.int .i64 x.kind, .int .i64 x.n, .string x.s, .slice ba x.b.length bc, .slice fa x.f.length fc, .slice la x.l.length lc]
def VIn (w : World) (Q : Nat → Prop) : Nat → Val → Value → Prop
 | 0, _, _ => False
 | h + 1, x, v => ∃ ba fa la bc fc lc, v = agg x ba fa la bc fc lc ∧ Lim x ∧ (x.b.length ≤ bc ∧ bc ≤ 9223372036854775807) ∧ (x.f.length ≤ fc ∧ fc ≤ 9223372036854775807) ∧ (x.l.length ≤ lc ∧ lc ≤ 9223372036854775807) ∧
   BytesIn w Q ba x.b ∧ FieldsIn w Q (VIn w Q h) fa x.f ∧ ItemsIn w Q (VIn w Q h) la x.l
def Kept (Q : Nat → Prop) (w w' : World) : Prop := ∀ g, Q g → g < w.heap.size → w'.heap[g]? = w.heap[g]?
theorem Kept.of_below {Q : Nat → Prop} {w w' : World} (hb : Below w.heap.size w w') : Kept Q w w' := fun g _ hg => hb.block g hg
theorem Kept.cell {Q : Nat → Prop} {w w' : World} (h : Kept Q w w') {g o : Nat} {v : Value} (hq : Q g) (hc : w.cell? ⟨g, o, none⟩ = some v) : w'.cell? ⟨g, o, none⟩ = some v :=
 (World.cell?_of_block (a := ⟨g, o, none⟩) (h g hq (World.block_lt_of_cell? w _ hc))).trans hc
theorem SixAt.kept {Q : Nat → Prop} {w w' : World} {g p : Nat} {v : Value} (h : SixAt w g p v) (hb : Kept Q w w') (hq : Q g) : SixAt w' g p v := by
 obtain ⟨c0, c1, c2, c3, c4, c5, e, h0, h1, h2, h3, h4, h5⟩ := h
 exact ⟨c0, c1, c2, c3, c4, c5, e, hb.cell hq h0, hb.cell hq h1, hb.cell hq h2, hb.cell hq h3, hb.cell hq h4, hb.cell hq h5⟩
theorem SixAt.keep {w w' : World} {g p : Nat} {v : Value} (h : SixAt w g p v) (hb : Below w.heap.size w w') : SixAt w' g p v :=
 h.kept (Q := fun _ => True) (Kept.of_below hb) trivial
theorem BytesIn.kept {Q Q' : Nat → Prop} {w w' : World} {a : Option Addr} {l : List Nat} (h : BytesIn w Q a l) (hb : Kept Q w w') (hQ : ∀ g, Q g → Q' g) : BytesIn w' Q' a l := by
 rcases h with h | ⟨g, o, e, hq, h⟩
 ·exact .inl h
 ·exact .inr ⟨g, o, e, hQ g hq, fun j hj => hb.cell hq (h j hj)⟩
theorem FieldsIn.kept {Q Q' : Nat → Prop} {w w' : World} {V V' : Val → Value → Prop} {a : Option Addr} {f : List (ByteArray × Val)} (h : FieldsIn w Q V a f) (hb : Kept Q w w') (hQ : ∀ g, Q g → Q' g) (hV : ∀ x v, V x v → V' x v) : FieldsIn w' Q' V' a f := by
 rcases h with h | ⟨g, o, e, hq, h⟩
 ·exact .inl h
 ·refine .inr ⟨g, o, e, hQ g hq, fun i hi => ?_⟩
  obtain ⟨h1, h2, v, h3, h4⟩ := h i hi
  exact ⟨hb.cell hq h1, h2, v, h3.kept hb hq, hV _ _ h4⟩
theorem ItemsIn.kept {Q Q' : Nat → Prop} {w w' : World} {V V' : Val → Value → Prop} {a : Option Addr} {l : List Val} (h : ItemsIn w Q V a l) (hb : Kept Q w w') (hQ : ∀ g, Q g → Q' g) (hV : ∀ x v, V x v → V' x v) : ItemsIn w' Q' V' a l := by
 rcases h with h | ⟨g, o, e, hq, h⟩
 ·exact .inl h
 ·refine .inr ⟨g, o, e, hQ g hq, fun i hi => ?_⟩
  obtain ⟨v, h3, h4⟩ := h i hi
  exact ⟨v, h3.kept hb hq, hV _ _ h4⟩
theorem VIn.kept {w w' : World} {Q Q' : Nat → Prop} (hb : Kept Q w w') (hQ : ∀ g, Q g → Q' g) : ∀ {h : Nat} {x : Val} {v : Value}, VIn w Q h x v → VIn w' Q' h x v
 | 0, _, _, h => h.elim
 | _ + 1, _, _, ⟨ba, fa, la, bc, fc, lc, e, h1, h2, h3, h4, h5, h6, h7⟩ =>
  ⟨ba, fa, la, bc, fc, lc, e, h1, h2, h3, h4, h5.kept hb hQ, h6.kept hb hQ (fun _ _ h => VIn.kept hb hQ h), h7.kept hb hQ (fun _ _ h => VIn.kept hb hQ h)⟩
theorem VIn.keep {w w' : World} {Q : Nat → Prop} (hb : Below w.heap.size w w') {h : Nat} {x : Val} {v : Value} (hv : VIn w Q h x v) : VIn w' Q h x v := VIn.kept (Kept.of_below hb) (fun _ h => h) hv
theorem VIn.up {w : World} {Q : Nat → Prop} : ∀ {h : Nat} {x : Val} {v : Value}, VIn w Q h x v → ∀ {h' : Nat}, h ≤ h' → VIn w Q h' x v
 | 0, _, _, h, _, _ => h.elim
 | h + 1, x, v, ⟨ba, fa, la, bc, fc, lc, e, h1, h2, h3, h4, h5, h6, h7⟩, h', hle => by
  obtain ⟨h', rfl⟩ : ∃ k, h' = k + 1 := ⟨h' - 1, by omega⟩
  have k : ∀ x v, VIn w Q h x v → VIn w Q h' x v := fun x v hv => VIn.up hv (by omega)
  exact ⟨ba, fa, la, bc, fc, lc, e, h1, h2, h3, h4, h5, h6.kept (Kept.of_below (Below.refl _ _)) (fun _ h => h) k, h7.kept (Kept.of_below (Below.refl _ _)) (fun _ h => h) k⟩
theorem BytesIn.slice {w : World} {Q : Nat → Prop} {a : Option Addr} {l : List Nat} (h : BytesIn w Q a l) : SliceIs w a l := by
 rcases h with h | ⟨g, o, e, _, h⟩
 ·exact .inl h
 ·exact .inr ⟨g, o, e, h⟩
end Go.Proofs.YtngllchoiffniaaDoor
end
