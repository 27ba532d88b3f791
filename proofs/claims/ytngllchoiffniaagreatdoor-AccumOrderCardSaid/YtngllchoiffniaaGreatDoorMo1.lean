/- Shelf, AppendSz, BsonBack, OpenBase, PathSplit, RegInv, SealRow, BsonForth, BytesStr, RegDet, StepApp, Wrote. -/
import Derived.Shelf.Unicode.ValidAny
import Derived.Shelf.Small.Strs
import Derived.Shelf.Strconv.Itoa0
import Derived.Shelf.Strconv.Itoa1
import Derived.Shelf.LaysM
import Derived.Shelf.Strconv.Itoa2
import Derived.Shelf.Strconv.Itoa3
import Derived.Shelf.Strings.Search1
import Derived.Shelf.Slices.Turned
import Derived.Ground.SlbCloneProg
import Derived.Shelf.Bytes.SlClone
import Derived.Test.YtngllchoiffniaaGreatDoorProg
import Derived.SizedLaws
import Derived.Deep.Strs
import Derived.Laws.AppendOwn
import Derived.Lib.IndexBytes
import Derived.Lib.CutLaws
import Derived.Test.YtngllchoiffniaaGreatDoorRows
import Derived.WalkKit
import Derived.Laws.CopyOwn
import Derived.Deep.Quiet
import Derived.Lib.Hide
import Derived.Laws.BitsAllLaws
import Derived.WalkLawsBesides
import Derived.Laws.BytesArg
import Derived.Deep.RegionLaw
import Derived.Test.YtngllchoiffniaaGreatDoorMo0
set_option maxRecDepth 100000
set_option maxHeartbeats 20000000
section
namespace Go.Proofs
open Go.Shelf
open Go.RowKit in
def Tryz.lays106_ren : Go.Shelf.Ren := ⟨fun | 106 => 81 | 213 => 98 | 265 => 105 | n => n, fun | 9 => 9 | 3 => 3 | n => n, fun | n => n⟩
theorem Tryz.lays106 : Go.Proofs.Lays.n106 Tryz.prog Tryz.lays106_ren := {
 mixed := by kernel_rfl
 f106 := Tryz.func81.trans (congrArg some (by kernel_rfl))
 f213 := Tryz.func98.trans (congrArg some (by kernel_rfl))
 f265 := Tryz.func105.trans (congrArg some (by kernel_rfl))
 t3 := Tryz.underlying3
 a3 := Tryz.isAgg3
 z3 := Tryz.sizeOf3
 v3 := Tryz.zeroValue3
 t9 := Tryz.underlying9
 a9 := Tryz.isAgg9
 z9 := Tryz.sizeOf9
 v9 := Tryz.zeroValue9 }
open Go.RowKit in
theorem Tryz.strings_Compare (a b : ByteArray) (w : World) :
  Calls Tryz.prog 81 #[.string a, .string b] w fun e w' => e = .returned (.int .i64 (Lib.compareBytes a.data.toList b.data.toList)) ∧ w' = w := Any.strings_Compare Tryz.lays106 a b w
def Tryz.lays137_ren : Go.Shelf.Ren := ⟨fun | 137 => 110 | 217 => 117 | 266 => 120 | n => n, fun | 9 => 9 | 5 => 5 | 3 => 3 | n => n, fun | n => n⟩
theorem Tryz.lays137 : Go.Proofs.Lays.n137 Tryz.prog Tryz.lays137_ren := {
 mixed := by kernel_rfl
 f137 := Tryz.func110.trans (congrArg some (by kernel_rfl))
 f217 := Tryz.func117.trans (congrArg some (by kernel_rfl))
 f266 := Tryz.func120.trans (congrArg some (by kernel_rfl))
 t3 := Tryz.underlying3
 a3 := Tryz.isAgg3
 z3 := Tryz.sizeOf3
 v3 := Tryz.zeroValue3
 t5 := Tryz.underlying5
 a5 := Tryz.isAgg5
 z5 := Tryz.sizeOf5
 v5 := Tryz.zeroValue5
 t9 := Tryz.underlying9
 a9 := Tryz.isAgg9
 z9 := Tryz.sizeOf9
 v9 := Tryz.zeroValue9 }
open Go.RowKit in
theorem Tryz.strings_IndexByte (s : ByteArray) (c : Int) (w : World) :
  Calls Tryz.prog 110 #[.string s, .int .u8 c] w fun e w' => e = .returned (.int .i64 (Lib.indexByte s.data.toList c.toNat.toUInt8)) ∧ w' = w := Any.strings_IndexByte Tryz.lays137 s c w
open Go.Lib in
open Go.Lib in
open Go.Lib in
open Go.Lib in
open Go.RowKit Go.Sort Go.Lib in
open Go.RowKit Go.Sort Go.Lib in
open Go.RowKit Go.Sort Go.Lib in
open Go.RowKit Go.Sort Go.Lib in
open Go.RowKit Go.Sort Go.Lib in
def Tryz.laysM171_ren : Go.Shelf.Ren := ⟨fun | 171 => 66 | 243 => 87 | 246 => 100 | 283 => 106 | 284 => 107 | 285 => 108 | 286 => 109 | 129 => 113 | 317 => 112 | 318 => 114 | 319 => 115 | 320 => 116 | 337 => 118 | 338 => 119 | n => n, fun | 3 => 3 | 9 => 9 | 2 => 2 | 4 => 4 | 171 => 119 | 0 => 0 | 53 => 101 | 37 => 32 | 5 => 5 | 173 => 122 | 212 => 130 | 51 => 131 | 20 => 20 | 213 => 132 | 46 => 25 | 232 => 135 | 233 => 136 | n => n, fun | 17 => 4 | 18 => 5 | 19 => 6 | n => n⟩
theorem Tryz.laysM171 : Go.Proofs.LaysM.n171 Tryz.prog Tryz.laysM171_ren := {
 mixed := by kernel_rfl
 f129 := Tryz.func113.trans (congrArg some (by kernel_rfl))
 f171 := Tryz.func66.trans (congrArg some (by kernel_rfl))
 f243 := Tryz.func87.trans (congrArg some (by kernel_rfl))
 f246 := Tryz.func100.trans (congrArg some (by kernel_rfl))
 f283 := Tryz.func106.trans (congrArg some (by kernel_rfl))
 f284 := Tryz.func107.trans (congrArg some (by kernel_rfl))
 f285 := Tryz.func108.trans (congrArg some (by kernel_rfl))
 f286 := Tryz.func109.trans (congrArg some (by kernel_rfl))
 f317 := Tryz.func112.trans (congrArg some (by kernel_rfl))
 f318 := Tryz.func114.trans (congrArg some (by kernel_rfl))
 f319 := Tryz.func115.trans (congrArg some (by kernel_rfl))
 f320 := Tryz.func116.trans (congrArg some (by kernel_rfl))
 f337 := Tryz.func118.trans (congrArg some (by kernel_rfl))
 f338 := Tryz.func119.trans (congrArg some (by kernel_rfl))
 t0 := Tryz.underlying0
 a0 := Tryz.isAgg0
 z0 := Tryz.sizeOf0
 v0 := Tryz.zeroValue0
 t2 := Tryz.underlying2
 a2 := Tryz.isAgg2
 z2 := Tryz.sizeOf2
 v2 := Tryz.zeroValue2
 t3 := Tryz.underlying3
 a3 := Tryz.isAgg3
 z3 := Tryz.sizeOf3
 v3 := Tryz.zeroValue3
 t4 := Tryz.underlying4
 a4 := Tryz.isAgg4
 z4 := Tryz.sizeOf4
 v4 := Tryz.zeroValue4
 t5 := Tryz.underlying5
 a5 := Tryz.isAgg5
 z5 := Tryz.sizeOf5
 v5 := Tryz.zeroValue5
 t9 := Tryz.underlying9
 a9 := Tryz.isAgg9
 z9 := Tryz.sizeOf9
 v9 := Tryz.zeroValue9
 t20 := Tryz.underlying20
 a20 := Tryz.isAgg20
 z20 := Tryz.sizeOf20
 v20 := Tryz.zeroValue20
 t37 := Tryz.underlying32
 a37 := Tryz.isAgg32
 z37 := Tryz.sizeOf32
 v37 := Tryz.zeroValue32
 t46 := Tryz.underlying25
 a46 := Tryz.isAgg25
 z46 := Tryz.sizeOf25
 v46 := Tryz.zeroValue25
 t51 := Tryz.underlying131
 a51 := Tryz.isAgg131
 z51 := Tryz.sizeOf131
 v51 := Tryz.zeroValue131
 t53 := Tryz.underlying101
 a53 := Tryz.isAgg101
 z53 := Tryz.sizeOf101
 v53 := Tryz.zeroValue101
 t171 := Tryz.underlying119
 a171 := Tryz.isAgg119
 z171 := Tryz.sizeOf119
 v171 := Tryz.zeroValue119
 t173 := Tryz.underlying122
 a173 := Tryz.isAgg122
 z173 := Tryz.sizeOf122
 v173 := Tryz.zeroValue122
 t212 := Tryz.underlying130
 a212 := Tryz.isAgg130
 z212 := Tryz.sizeOf130
 v212 := Tryz.zeroValue130
 t213 := Tryz.underlying132
 a213 := Tryz.isAgg132
 z213 := Tryz.sizeOf132
 t232 := Tryz.underlying135
 a232 := Tryz.isAgg135
 z232 := Tryz.sizeOf135
 v232 := Tryz.zeroValue135
 t233 := Tryz.underlying136
 a233 := Tryz.isAgg136
 z233 := Tryz.sizeOf136
 v233 := Tryz.zeroValue136
 g17 := by kernel_rfl
 g18 := by kernel_rfl
 g19 := by kernel_rfl
 i0 := by kernel_rfl
 i2 := by kernel_rfl
 i3 := by kernel_rfl
 i4 := by kernel_rfl
 i5 := by kernel_rfl
 i9 := by kernel_rfl
 i20 := by kernel_rfl
 i37 := by kernel_rfl
 i46 := by kernel_rfl
 i51 := by kernel_rfl
 i53 := by kernel_rfl
 i171 := by kernel_rfl
 i173 := by kernel_rfl
 i212 := by kernel_rfl
 i232 := by kernel_rfl
 i233 := by kernel_rfl
 m17 := by kernel_rfl
 m18 := by kernel_rfl
 m19 := by kernel_rfl }
open Go.RowKit Go.Sort Go.Lib in
theorem Tryz.strconv_Itoa (n : Int) (h0 : -9223372036854775808 ≤ n) (h1 : n ≤ 9223372036854775807) (w : World) (htab : Lib.TabIs Tryz.prog w "internal/strconv.uint64pow10" .u64 Lib.pow10Tab) :
  Calls Tryz.prog 66 #[.int .i64 n] w fun e w' => e = .returned (.string ⟨(Lib.itoa n).toArray⟩) ∧ ∃ k os, w' = grow (w.drewN k) os := Any.strconv_Itoa Tryz.laysM171 n h0 h1 w htab
open Go.RowKit Go.Sort Go.Lib in
open Go.RowKit Go.Lib in
def Tryz.lays109_ren : Go.Shelf.Ren := ⟨fun | 109 => 33 | n => n, fun | 31 => 57 | 9 => 9 | 3 => 3 | 0 => 0 | 4 => 4 | n => n, fun | n => n⟩
theorem Tryz.lays109 : Go.Proofs.Lays.n109 Tryz.prog Tryz.lays109_ren := {
 mixed := by kernel_rfl
 f109 := Tryz.func33.trans (congrArg some (by kernel_rfl))
 t0 := Tryz.underlying0
 a0 := Tryz.isAgg0
 z0 := Tryz.sizeOf0
 v0 := Tryz.zeroValue0
 t3 := Tryz.underlying3
 a3 := Tryz.isAgg3
 z3 := Tryz.sizeOf3
 v3 := Tryz.zeroValue3
 t4 := Tryz.underlying4
 a4 := Tryz.isAgg4
 z4 := Tryz.sizeOf4
 v4 := Tryz.zeroValue4
 t9 := Tryz.underlying9
 a9 := Tryz.isAgg9
 z9 := Tryz.sizeOf9
 v9 := Tryz.zeroValue9
 t31 := Tryz.underlying57
 a31 := Tryz.isAgg57
 z31 := Tryz.sizeOf57
 v31 := Tryz.zeroValue57 }
open Go.Lib in
theorem Tryz.slices_Index_string (b off n c : Nat) (zs : List ByteArray) (x : ByteArray) (w : World) (hz : n ≤ zs.length) (hbig : n ≤ 9223372036854775807) (hc : ∀ j, j < zs.length → w.cell? ⟨b, off + j, none⟩ = some (.string (zs.getD j ByteArray.empty))) :
  Calls Tryz.prog 33 #[.slice (some ⟨b, off, none⟩) n c, .string x] w fun e w' => e = .returned (.int .i64 (Lib.idxOfS (zs.take n) x)) ∧ w' = w := Any.slices_Index_string Tryz.lays109 b off n c zs x w hz hbig hc
open Go.Lib in
def Tryz.laysSlK4_ren : Go.Shelf.Ren := ⟨fun | 4 => 58 | n => n, fun | 22 => 32 | 4 => 4 | 5 => 5 | n => n, fun | n => n⟩
theorem Tryz.laysSlK4 : Go.Proofs.SlLaysK.n4 Tryz.prog Tryz.laysSlK4_ren := {
 mixed := by kernel_rfl
 f4 := Tryz.func58.trans (congrArg some (by kernel_rfl))
 t4 := Tryz.underlying4
 a4 := Tryz.isAgg4
 z4 := Tryz.sizeOf4
 v4 := Tryz.zeroValue4
 t22 := Tryz.underlying32
 a22 := Tryz.isAgg32
 z22 := Tryz.sizeOf32
 v22 := Tryz.zeroValue32
 t5 := Tryz.underlying5
 i5 := by kernel_rfl }
open Go.RowKit Go.Lib in
theorem Tryz.bytes_Clone_at (a : Addr) (n c : Nat) (xs : List Int) (w : World) (hx : xs.length = n) (hbig : n ≤ 140737488355328) (hc : ∀ i, i < n → w.cell? (a.add i) = some (.int .u8 (xs.getD i 0))) :
  Calls Tryz.prog 58 #[.slice (some a) n c] w fun e w' => ∃ v', e = .returned v' ∧ w'.ownsRow w.heap.size 5 1 v' n (xs.map (Value.int .u8)) ∧ v' ≠ .slice none 0 0 ∧ Below w.heap.size w w' := Any.bytes_Clone_at Tryz.laysSlK4 a n c xs w hx hbig hc
open Go.RowKit Go.Lib in
theorem Tryz.bytes_Clone_nil (n c : Nat) (w : World) :
  Calls Tryz.prog 58 #[.slice none n c] w fun e w' => e = .returned (.slice none 0 0) ∧ w' = w := Any.bytes_Clone_nil Tryz.laysSlK4 n c w
def Tryz.lays196_ren : Go.Shelf.Ren := ⟨fun | 196 => 93 | 259 => 102 | n => n, fun | 9 => 9 | 4 => 4 | 3 => 3 | 5 => 5 | 12 => 12 | 119 => 111 | 0 => 0 | 46 => 25 | 139 => 114 | 138 => 113 | 53 => 101 | n => n, fun | 3 => 1 | 4 => 2 | n => n⟩
theorem Tryz.lays196 : Go.Proofs.Lays.n196 Tryz.prog Tryz.lays196_ren := {
 mixed := by kernel_rfl
 f196 := Tryz.func93.trans (congrArg some (by kernel_rfl))
 f259 := Tryz.func102.trans (congrArg some (by kernel_rfl))
 t0 := Tryz.underlying0
 a0 := Tryz.isAgg0
 z0 := Tryz.sizeOf0
 v0 := Tryz.zeroValue0
 t3 := Tryz.underlying3
 a3 := Tryz.isAgg3
 z3 := Tryz.sizeOf3
 v3 := Tryz.zeroValue3
 t4 := Tryz.underlying4
 a4 := Tryz.isAgg4
 z4 := Tryz.sizeOf4
 v4 := Tryz.zeroValue4
 t5 := Tryz.underlying5
 a5 := Tryz.isAgg5
 z5 := Tryz.sizeOf5
 v5 := Tryz.zeroValue5
 t9 := Tryz.underlying9
 a9 := Tryz.isAgg9
 z9 := Tryz.sizeOf9
 v9 := Tryz.zeroValue9
 t12 := Tryz.underlying12
 a12 := Tryz.isAgg12
 z12 := Tryz.sizeOf12
 v12 := Tryz.zeroValue12
 t46 := Tryz.underlying25
 a46 := Tryz.isAgg25
 z46 := Tryz.sizeOf25
 v46 := Tryz.zeroValue25
 t53 := Tryz.underlying101
 a53 := Tryz.isAgg101
 z53 := Tryz.sizeOf101
 v53 := Tryz.zeroValue101
 t119 := Tryz.underlying111
 a119 := Tryz.isAgg111
 z119 := Tryz.sizeOf111
 t138 := Tryz.underlying113
 a138 := Tryz.isAgg113
 z138 := Tryz.sizeOf113
 v138 := Tryz.zeroValue113
 t139 := Tryz.underlying114
 a139 := Tryz.isAgg114
 z139 := Tryz.sizeOf114
 v139 := Tryz.zeroValue114
 g3 := by kernel_rfl
 g4 := by kernel_rfl }
open Go.RowKit in
theorem Tryz.utf8_ValidString (s : ByteArray) (w : World) (hs : s.size ≤ 9223372036854775807) (hT : Lib.Utf8Tabs 1 2 w) :
  Calls Tryz.prog 93 #[.string s] w fun e w' => e = .returned (.bool (Lib.validD s.data.toList)) ∧ Below w.heap.size w w' := Any.utf8_ValidString Tryz.lays196 s w hs hT
end Go.Proofs
end
section
namespace Go.Proofs.YtngllchoiffniaaGreatDoor
open Go.RowKit
section
variable {P : Program} (w : World)
theorem run_append_sz (base : Nat) (t ty e : TypeId) (i : TypeInfo) (z : Value) (size bytes : Nat) (ht : P.underlying t = some (.slice e)) (hi : P.info? e = some i) (hz : i.zero = some z)
  (hsize : i.size = size) (hby : i.bytes = bytes) (hzs : z.cells.size = size) (v : Value) (n : Nat) (xs : List Value) (hown : w.ownsRow base e size v n xs)
  (a : Addr) (m c : Nat) (news : List Value) (hl : news.length = m * size) (hm : 0 < m) (_ : 0 < size) (hnews : ∀ j u, news[j]? = some u → w.cell? (a.add j) = some u) (h1 : ∀ u ∈ news, u.oneCell' = true)
  (h63 : n + m ≤ maxLen) (hbytes : (n + m) * bytes ≤ 140737488355328) (hbase : base ≤ w.heap.size) :
  ∃ v' w', (Builtin.append_ #[t, t] ty #[v, .slice (some a) m c]).run P w = .ok v' w' ∧ w'.ownsRow base e size v' (n + m) (xs ++ news) ∧ Lies w w' v v' := by
 subst hby
 have hsmall : n + m ≤ 9223372036854775807 := by simp only [maxLen] at h63; omega
 have hxl : xs.length = n * size := hown.1
 have grown : ∀ (old : Nat), old < n + m →
   (w.drew.alloc (.cells (xs.toArray ++ news.toArray ++ Builtin.zeroCells z.cells (grownCap w (n + m) old e - (n + m))) e)).ownsRow base e size
    (.slice (some ⟨w.heap.size, 0, none⟩) (n + m) (grownCap w (n + m) old e)) (n + m) (xs ++ news) ∧
   w.grownBy (w.drew.alloc (.cells (xs.toArray ++ news.toArray ++ Builtin.zeroCells z.cells (grownCap w (n + m) old e - (n + m))) e)) none := by
  intro old ho
  have hge := grownCap_ge w (n + m) old e
  have hcm : grownCap w (n + m) old e ≤ maxLen := grownCap_le_maxLen w (n + m) old e h63
  have e1 : (xs ++ news).length = (n + m) * size := by rw [List.length_append, hxl, hl, Nat.add_mul]
  refine ⟨⟨e1, .inr ⟨w.heap.size, _, _, rfl, hbase, heap_alloc_new w.drew _, hge, hcm, ?_, ?_⟩⟩, ⟨rfl, rfl, rfl, by simp, fun k hk _ => Below.heap_alloc w.drew _ k hk⟩⟩
  ·simp only [Array.size_append, List.size_toArray, size_zeroCells, hzs]
   rw [hxl, hl, ← Nat.add_mul, ← Nat.add_mul]
   congr 1; omega
  ·simp only [Array.toList_append, List.append_assoc]
   rw [← List.append_assoc]
   exact List.take_left' e1
 rcases hown.2 with ⟨rfl, rfl⟩ | ⟨g, cap, cur, rfl, hbg, hg, hnc, hcm, hcs, htake⟩
 ·have hx : xs = [] := List.eq_nil_of_length_eq_zero (by omega)
  subst hx
  have hr := run_append_nil (P := P) w t ty e i z ht hi hz a m c news (by rw [hsize]; exact hl) hnews hm (by omega) (by have hb := hbytes; simp only [Nat.zero_add] at hb; omega)
  have hgr := grown 0 (by omega)
  simp only [Nat.zero_add, List.nil_append, Array.empty_append] at hgr ⊢
  exact ⟨_, _, hr, hgr.1, .inr ⟨rfl, hgr.2⟩⟩
 ·by_cases hroom : n + m ≤ cap
  ·obtain ⟨w', hr, h2, h3⟩ := run_append_fits (P := P) w base t ty e i size ht hi hsize g n cap xs hown a m c news hl hnews h1 hroom
   exact ⟨_, w', hr, h2, .inl ⟨rfl, h3⟩⟩
  ·have holds : ∀ j u, xs[j]? = some u → w.cell? ((⟨g, 0, none⟩ : Addr).add j) = some u := hown.cells (g := g) rfl
   have hr := run_append_grow (P := P) w t ty e i z ht hi hz ⟨g, 0, none⟩ n cap xs (by rw [hsize]; exact hxl) holds a m c news (by rw [hsize]; exact hl) hnews (by omega) (by omega) (growslice_fits (by omega) hbytes)
   have hgr := grown cap (by omega)
   exact ⟨_, _, hr, hgr.1, .inr ⟨rfl, hgr.2⟩⟩
theorem wpList_append_sz {ops : Array Oper} {rest : List Oper} {o : Oper} {a : Act} {Q : Exit → Act → World → Prop} (hgd : o.guard = none) (s x : Operand) (t : TypeId)
  (ho : o.op = .call { callee := .builtin .append, args := #[s, x], argTypes := #[t, t] })
  (base : Nat) (e : TypeId) (i : TypeInfo) (z : Value) (size bytes : Nat) (ht : P.underlying t = some (.slice e)) (hi : P.info? e = some i) (hz : i.zero = some z)
  (hsize : i.size = size) (hby : i.bytes = bytes) (hzs : z.cells.size = size) (v : Value) (n : Nat) (xs : List Value) (hs : a.eval s = v) (hown : w.ownsRow base e size v n xs)
  (ad : Addr) (m c : Nat) (news : List Value) (hx : a.eval x = .slice (some ad) m c) (hl : news.length = m * size) (hm : 0 < m) (hsz : 0 < size) (hnews : ∀ j u, news[j]? = some u → w.cell? (ad.add j) = some u) (h1 : ∀ u ∈ news, u.oneCell' = true)
  (h63 : n + m ≤ maxLen) (hbytes : (n + m) * bytes ≤ 140737488355328) (hbase : base ≤ w.heap.size)
  (h : ∀ v' w', w'.ownsRow base e size v' (n + m) (xs ++ news) → Lies w w' v v' → wpList P ops Q rest (a.put o.dst v') w') : wpList P ops Q (o :: rest) a w := by
 refine wpList_plain hgd fun K hK => ?_
 obtain ⟨v', w', hr, h2, h3⟩ := run_append_sz (P := P) w base t o.type e i z size bytes ht hi hz hsize hby hzs v n xs hown ad m c news hl hm hsz hnews h1 h63 hbytes hbase
 unfold Oper.wp execOp
 simp only [ho, resolve, invoke, builtin, Sem.run_bind, Sem.run_pure, Result.andThen_ok, List.map_toArray, List.map_cons, List.map_nil, hs, hx, hr]
 exact hK _ _ (h v' w' h2 h3)
end
end Go.Proofs.YtngllchoiffniaaGreatDoor
end
section
namespace Bson
open Go
/-! what was read makes the bytes that it was read from -/
/-! digits -/
theorem wrap_length (l : List Nat) : (wrap l).length = l.length + 5 := by simp [wrap, leI_length]; omega
end Bson
end
section
namespace Go.Proofs.YtngllchoiffniaaGreatDoor
open Go.ChangeShapes Go.WideShapes Go.ChangeAt Go.RowKit
theorem reach_eq : reachBytes = 140737488351232 := rfl
theorem addr_spot {w : World} {a : Addr} {v : Value} (h : w.cell? (a.add 0) = some v) : a = ⟨a.block, a.off, none⟩ := by
 obtain ⟨b, off, spot⟩ := a
 have hspot : spot = none := by simpa [Addr.add] using World.cell?_spot h
 subst hspot
 rfl
theorem cellsStr : Tryz.prog.cellsOf 9 = 1 := by kernel_rfl
theorem weightsAll_mem {H : Type} {P : Program} {e : TypeId} : ∀ {l : List (DataW H)} {d : DataW H}, d ∈ l → ∀ n ∈ d.weights P e, n ∈ DataW.weightsAll P e l
 | d' :: r, d, hd, n, hn => by
  simp only [DataW.weightsAll, List.mem_append]
  rcases List.mem_cons.1 hd with rfl | h
  ·exact Or.inl hn
  ·exact Or.inr (weightsAll_mem h n hn)
end Go.Proofs.YtngllchoiffniaaGreatDoor
end
section
namespace Go.Proofs.YtngllchoiffniaaGreatDoor
open Go
namespace Path
def split : List UInt8 → List (List UInt8)
 | [] => [[]]
 | c :: r => if c = 46 then [] :: split r else (c :: (split r).headD []) :: (split r).tail
theorem split_free : ∀ (a : List UInt8), 46 ∉ a → split a = [a]
 | [], _ => rfl
 | c :: r, h => by
  have hc : c ≠ 46 := fun e => h (by simp [e])
  have ih := split_free r (fun e => h (by simp [e]))
  simp [split, hc, ih]
theorem split_cut : ∀ (a b : List UInt8), 46 ∉ a → split (a ++ 46 :: b) = a :: split b
 | [], b, _ => by simp [split]
 | c :: r, b, h => by
  have hc : c ≠ 46 := fun e => h (by simp [e])
  have ih := split_cut r b (fun e => h (by simp [e]))
  simp [split, hc, ih]
theorem split_ne (s : List UInt8) : split s ≠ [] := by
 cases s with
 | nil => simp [split]
 | cons c r => unfold split; split <;> simp
def may (x : List UInt8) : Bool := (!x.isEmpty) && (x.headD 0 != 36) && decide (x.length ≤ 120) && decide (0 ∉ x) && Lib.validD x
def parse (s : List UInt8) : Option (List (List UInt8)) := if (split s).all may = true ∧ (split s).length ≤ 16 then some (split s) else none
end Path
end Go.Proofs.YtngllchoiffniaaGreatDoor
end
section
namespace Go.Proofs.YtngllchoiffniaaGreatDoor
open Go.RowKit
def setD (D : Nat → Bool) (i : Nat) : Nat → Bool := fun j => if j = i then true else D j
section
variable {P : Program} {Q : Exit → Act → World → Prop} {md : Region.Mode}
def InvStep (P : Program) (md : Region.Mode) (ops : Array Oper) (Q : Exit → Act → World → Prop) (A : (Nat → Value) → Act) (I : (Nat → Bool) → (Nat → Value) → World → Prop) (i : Nat) (o : Oper) : Prop :=
 ∀ (D : Nat → Bool) (V : Nat → Value) (w : World), D i = false → (∀ j, (o.after.any fun e => Region.binds md e && e.on == j) = true → D j = true) → I D V w →
  ∀ K : Act → World → Prop, (∀ a' v w', (A V).put o.dst v = a' → I (setD D i) (upd V i v) w' → K a' w') →
  if Region.wanted o (yielded ops (A V).tmps) = true then Oper.wp P o (A V) w K Q else K ((A V).put o.dst undef) w
def InvSteps (P : Program) (md : Region.Mode) (ops : Array Oper) (Q : Exit → Act → World → Prop) (A : (Nat → Value) → Act) (I : (Nat → Bool) → (Nat → Value) → World → Prop) : List Oper → Nat → Prop
 | [], _ => True
 | o :: r, i => InvStep P md ops Q A I i o ∧ InvSteps P md ops Q A I r (i + 1)
theorem InvSteps.at {ops : Array Oper} {A : (Nat → Value) → Act} {I : (Nat → Bool) → (Nat → Value) → World → Prop} : ∀ {r : List Oper} {k i : Nat} {o : Oper}, InvSteps P md ops Q A I r k → r[i]? = some o → InvStep P md ops Q A I (k + i) o
 | [], _, _, _, _, h => by simp at h
 | x :: r, k, 0, o, hs, h => by
  obtain rfl : x = o := by simpa using h
  exact hs.1
 | x :: r, k, i + 1, o, hs, h => by
  have := InvSteps.at (r := r) (k := k + 1) (i := i) hs.2 (by simpa using h)
  rwa [show k + 1 + i = k + (i + 1) by omega] at this
theorem inv_any {l : List Oper} {A : (Nat → Value) → Act} {I : (Nat → Bool) → (Nat → Value) → World → Prop} (hb : backB md l 0 = true)
  (hA : ∀ V i o v, l[i]? = some o → (A V).put o.dst v = A (upd V i v)) (hs : InvSteps P md l.toArray Q A I l 0)
  (hend : ∀ D V w, (∀ j, j < l.length → D j = true) → I D V w → Q .normal (A V) w) :
  ∀ (fuel : Nat) (listed : Array Bool) (V : Nat → Value) (w : World), listed.size = l.length → unl listed l.length ≤ fuel →
   I (fun j => listed.getD j false) V w → wpAny P md l.toArray Q fuel listed (A V) w := by
 have full : ∀ (listed : Array Bool), Region.ready md l.toArray listed = [] → ∀ n j, j < n → j < l.length → listed.getD j true = true := by
  intro listed hr n
  induction n with
  | zero => intro j h; omega
  | succ n ih =>
   intro j hj hl
   by_cases e : listed.getD j true = true
   ·exact e
   ·exfalso
    have ho : l[j]? = some l[j] := List.getElem?_eq_getElem hl
    have : j ∈ Region.ready md l.toArray listed := by
     refine mem_ready.2 ⟨by simpa using e, l[j], by simp, fun e' he' hb' => ?_⟩
     have hlt := back_spec md l 0 j _ hb ho e' he' hb'
     have h1 := ih e'.on (by omega) (by omega)
     by_cases hs : e'.on < listed.size
     ·simp [hs] at h1 ⊢; exact h1
     ·exfalso
      apply e
      have : ¬ j < listed.size := by omega
      simp [this]
    rw [hr] at this
    cases this
 have done : ∀ (listed : Array Bool) (V : Nat → Value) (w : World), listed.size = l.length → (∀ j, j < l.length → listed.getD j true = true) →
   I (fun j => listed.getD j false) V w → Q .normal (A V) w := fun listed V w hz hall hI => hend _ V w (fun j hj => by
    have := hall j hj
    have h2 : j < listed.size := by omega
    simp [h2] at this ⊢; exact this) hI
 intro fuel
 induction fuel with
 | zero =>
  intro listed V w hz hu hI
  have hall := unl_zero listed l.length (by omega)
  refine ⟨?_, done listed V w hz hall hI⟩
  cases hr : Region.ready md l.toArray listed with
  | nil => rfl
  | cons x xs =>
   have hx : x ∈ Region.ready md l.toArray listed := by rw [hr]; exact List.mem_cons_self
   obtain ⟨h0, o, ho, _⟩ := mem_ready.1 hx
   have hlt : x < l.length := by simpa using (Array.getElem?_eq_some_iff.1 ho).1
   rw [hall x hlt] at h0; cases h0
 | succ fuel ih =>
  intro listed V w hz hu hI
  refine ⟨fun hr => done listed V w hz (fun j hj => full listed hr (j + 1) j (by omega) hj) hI, fun i hi => ?_⟩
  obtain ⟨h0, o, ho, hall⟩ := mem_ready.1 hi
  have ho' : l[i]? = some o := by simpa using ho
  have hlt : i < l.length := (List.getElem?_eq_some_iff.1 ho').1
  have hstep := InvSteps.at (k := 0) (i := i) hs ho'
  rw [Nat.zero_add] at hstep
  have hls : i < listed.size := by omega
  have h1 := hstep (fun j => listed.getD j false) V w (by simp [hls] at h0 ⊢; exact h0) (fun j hj => by
   obtain ⟨e, he, hb2⟩ := Array.any_eq_true'.1 hj
   simp only [Bool.and_eq_true, beq_iff_eq] at hb2
   rw [← hb2.2]; exact hall e he hb2.1) hI (wpAny P md l.toArray Q fuel (listed.setIfInBounds i true)) (fun a' v w' ha hI' => by
    rw [← ha, hA V i o v ho']
    refine ih _ _ _ (by simpa using hz) (by have := unl_set_lt listed i h0 l.length hlt; omega) ?_
    have e : (fun j => (listed.setIfInBounds i true).getD j false) = setD (fun j => listed.getD j false) i := by
     funext j
     by_cases e : j = i
     ·subst e; simp [setD, hls]
     ·rw [getD_set_ne false (Ne.symm e), setD, if_neg e]
    rw [e]; exact hI')
  unfold wpOp
  simp only [ho]
  split
  ·rename_i hw
   rw [if_pos hw] at h1
   exact .inl h1
  ·rename_i hw
   rw [if_neg hw] at h1
   exact h1
theorem wp_region_inv {id : Nat} {a : Act} {w : World} {l : List Oper} (A : (Nat → Value) → Act) (I : (Nat → Bool) → (Nat → Value) → World → Prop) (hm : P.follows .mixedOrders = true) (hb : backB .any l 0 = true)
  (hn : nodupB (l.map (·.dst)) = true) (hA : ∀ V, putAll a V (l.map (·.dst)) 0 = A V) (hs : InvSteps P .any l.toArray Q A I l 0)
  (h0 : ∀ V, I (fun _ => false) V { w with drawn := w.drawn + 1 })
  (hend : ∀ D V w', (∀ j, j < l.length → D j = true) → I D V w' → Q .normal (A V) w') : (Code.region id l.toArray true).wp P Q a w := by
 refine wp_region_any hm ?_
 have e0 : a = A (own0 a (l.map (·.dst))) := by
  rw [← hA, putAll_own]
  intro i d hi
  rw [Nat.zero_add, own0, hi]
 have h := inv_any (I := I) hb (fun V i o v ho => by
   rw [← hA, ← hA]
   have := putAll_upd (V := V) v (l.map (·.dst)) 0 i o.dst a hn (by rw [List.getElem?_map, ho]; rfl)
   rwa [Nat.zero_add] at this) hs hend l.toArray.size (Array.replicate l.toArray.size false) (own0 a (l.map (·.dst))) { w with drawn := w.drawn + 1 } (by simp) (by simpa using unl_le _ l.length)
   (by
    have e : (fun j => (Array.replicate l.toArray.size false).getD j false) = fun _ => false := by
     funext j
     by_cases h : j < l.length
     ·simp [h]
     ·simp [h]
    rw [e]; exact h0 _)
 rw [← e0] at h
 exact h
end
structure OFact where
 own : Bool
 p : Value → Nat → World → Prop
def OFact.any : OFact := ⟨false, fun _ _ _ => True⟩
section
variable {P : Program} {Q : Exit → Act → World → Prop} {md : Region.Mode}
end
section
variable {P : Program} {Q : Exit → Act → World → Prop} {md : Region.Mode}
theorem inv_free {ops : Array Oper} {A : (Nat → Value) → Act} {I : (Nat → Bool) → (Nat → Value) → World → Prop} {i : Nat} {o : Oper} (hg : o.guard = none)
  (h : ∀ (D : Nat → Bool) (V : Nat → Value) (w : World), D i = false → Shut (∀ j, (o.after.any fun e => Region.binds md e && e.on == j) = true → D j = true) → I D V w →
   ∀ K : Act → World → Prop, Shut (∀ v w', I (setD D i) (upd V i v) w' → K ((A V).put o.dst v) w') → Oper.wp P o (A V) w K Q) : InvStep P md ops Q A I i o := by
 intro D V w hDi hpre hI K hK
 rw [if_pos (show Region.wanted o (yielded ops (A V).tmps) = true by simp [Region.wanted, hg])]
 exact h D V w hDi hpre hI K (fun v w' h1 => hK _ v w' rfl h1)
end
end Go.Proofs.YtngllchoiffniaaGreatDoor
end
section
namespace Go.Proofs.YtngllchoiffniaaGreatDoor
open Go.RowKit
open Seal
def u8 (n : Nat) : Value := .int .u8 (n : Int)
def u8s (l : List Nat) : List Value := l.map u8
def Row (w : World) (g : Nat) (l : List Nat) : Prop := w.heap[g]? = some (.cells (u8s l).toArray 5 (0, 0))
theorem Row.cell {w : World} {g : Nat} {l : List Nat} (h : Row w g l) {j : Nat} (hj : j < l.length) : w.cell? ⟨g, j, none⟩ = some (.int .u8 ((l.getD j 0 : Nat) : Int)) := by
 rw [cell_of_row w g j _ _ _ h]
 simp [u8s, u8, List.getElem?_eq_getElem hj, List.getD_eq_getElem?_getD]
theorem Row.frozen {w : World} {g : Nat} {l : List Nat} (h : Row w g l) (j : Nat) : w.frozen? ⟨g, j, none⟩ = false := frozen_of_row w g j _ _ h
theorem Row.lt {w : World} {g : Nat} {l : List Nat} (h : Row w g l) : g < w.heap.size := by
 by_cases hg : g < w.heap.size
 ·exact hg
 ·unfold Row at h; rw [Array.getElem?_eq_none (by omega)] at h; simp at h
theorem Row.set {w : World} {g : Nat} {l : List Nat} (h : Row w g l) (j v : Nat) : Row (w.setCell ⟨g, j, none⟩ (.int .u8 (v : Int))) g (l.set j v) := by
 unfold Row
 rw [heap_setCell_same w g j _ _ _ h]
 simp [u8s, u8, List.map_set]
theorem Row.same {w w' : World} {g : Nat} {l : List Nat} (h : Row w g l) (e : w'.heap[g]? = w.heap[g]?) : Row w' g l := e.trans h
theorem Row.drew {w : World} {g : Nat} {l : List Nat} (h : Row w g l) : Row w.drew g l := h
theorem Row.made {w : World} (n : Nat) : Row (w.alloc (.cells (madeCells #[.int .u8 0] n) 5)) w.heap.size (List.replicate n 0) := by
 unfold Row
 rw [heap_alloc_new w _]
 have : (madeCells #[Value.int .u8 0] n) = (u8s (List.replicate n 0)).toArray := by
  apply Array.toList_inj.1
  rw [toList_madeCells_one]; simp [u8s, u8]
 rw [this]
theorem Row.below {w w' : World} {g B : Nat} {l : List Nat} (h : Row w g l) (hb : Below B w w') (hg : g < B) : Row w' g l := h.same (hb.block g hg)
theorem Row.inj {w : World} {g : Nat} {l m : List Nat} (h : Row w g l) (k : Row w g m) : l = m := by
 have e : (u8s l) = (u8s m) := by
  have := h.symm.trans k
  simpa using this
 unfold u8s at e
 refine (List.map_inj_right ?_).1 e
 intro x y hxy
 simp [u8] at hxy; omega
def Reads (w : World) (b off : Nat) (l : List Nat) : Prop := ∀ j, j < l.length → w.cell? ⟨b, off + j, none⟩ = some (.int .u8 ((l.getD j 0 : Nat) : Int))
theorem Row.reads {w : World} {g : Nat} {l : List Nat} (h : Row w g l) (off n : Nat) (hn : off + n ≤ l.length) : Reads w g off ((l.drop off).take n) := by
 intro j hj
 simp at hj
 rw [h.cell (by omega)]
 simp [List.getD_eq_getElem?_getD, show j < n by omega]
theorem Reads.below {w w' : World} {b off B : Nat} {l : List Nat} (h : Reads w b off l) (hb : Below B w w') (hg : b < B) : Reads w' b off l :=
 fun j hj => (hb.cell (p := ⟨b, off + j, none⟩) hg).trans (h j hj)
theorem Reads.drewN {w : World} {b off : Nat} {l : List Nat} (h : Reads w b off l) (n : Nat) : Reads (w.drewN n) b off l := fun j hj => by rw [World.cell?_drewN]; exact h j hj
theorem Reads.part {w : World} {b off : Nat} {l : List Nat} (h : Reads w b off l) (k n : Nat) : Reads w b (off + k) ((l.drop k).take n) := by
 intro j hj
 simp at hj
 have := h (k + j) (by omega)
 rw [Nat.add_assoc, this]
 simp [List.getD_eq_getElem?_getD, show j < n by omega]
theorem grown_setCell {w wr : World} {g : Nat} (h : w.grownBy wr (some g)) (j : Nat) (u : Value) : w.grownBy (wr.setCell ⟨g, j, none⟩ u) (some g) :=
 ⟨h.os, h.tape, h.output, by simpa using h.size, fun k hk hne => (heap_setCell_other wr ⟨g, j, none⟩ k u (fun e => hne (by simp [e]))).trans (h.block k hk hne)⟩
def SliceIs (w : World) (a : Option Addr) (l : List Nat) : Prop := l = [] ∨ ∃ b off, a = some ⟨b, off, none⟩ ∧ Reads w b off l
theorem SliceIs.below {w w' : World} {a : Option Addr} {B : Nat} {l : List Nat} (h : SliceIs w a l) (hb : Below B w w') (hB : ∀ p, a = some p → p.block < B) : SliceIs w' a l := by
 rcases h with h | ⟨b, off, rfl, h⟩
 ·exact .inl h
 ·exact .inr ⟨b, off, rfl, h.below hb (hB _ rfl)⟩
theorem SliceIs.drewN {w : World} {a : Option Addr} {l : List Nat} (h : SliceIs w a l) (n : Nat) : SliceIs (w.drewN n) a l := h.imp id fun ⟨b, off, e, h⟩ => ⟨b, off, e, h.drewN n⟩
theorem Reads.keep {w w' : World} {b off : Nat} {l : List Nat} (h : Reads w b off l) (hb : Below w.heap.size w w') : Reads w' b off l :=
 fun j hj => (hb.cell (p := ⟨b, off + j, none⟩) (World.block_lt_of_cell? w _ (h j hj))).trans (h j hj)
theorem SliceIs.keep {w w' : World} {a : Option Addr} {l : List Nat} (h : SliceIs w a l) (hb : Below w.heap.size w w') : SliceIs w' a l :=
 h.imp id fun ⟨b, off, e, h⟩ => ⟨b, off, e, h.keep hb⟩
end Go.Proofs.YtngllchoiffniaaGreatDoor
end
section
namespace Bson
open Go
theorem row_cons {e : Val → Option (List Nat)} {s : ByteArray} {v : Val} {fs : List (ByteArray × Val)} {bs : List Nat} (h : row e ((s, v) :: fs) = some bs) :
  ∃ x y, nameMay s = true ∧ e v = some x ∧ row e fs = some y ∧ bs = code v.kind :: (bytes s ++ (0 :: (x ++ y))) := by
 rw [row] at h
 cases h1 : nameMay s with
 | false => rw [h1] at h; simp at h
 | true =>
  cases h2 : e v with
  | none => rw [h1, h2] at h; simp at h
  | some x =>
   cases h3 : row e fs with
   | none => rw [h1, h2, h3] at h; simp at h
   | some y =>
    rw [h1, h2, h3] at h
    injection h with h
    exact ⟨x, y, rfl, rfl, rfl, h.symm⟩
theorem named_length (l : List Val) : (named l).length = l.length := by simp [named]
end Bson
end
section
namespace Go.Proofs.YtngllchoiffniaaGreatDoor
open Go.RowKit
open Seal
def strB (l : List Nat) : ByteArray := ⟨(l.map UInt8.ofNat).toArray⟩
theorem conv_str (w : World) (a : Option Addr) (n c : Nat) (l : List Nat) (hl : l.length = n) (h : SliceIs w a l) : (convert 32 9 (.slice a n c)).run Tryz.prog w = .ok (.string (strB l)) w := by
 subst hl
 rcases h with rfl | ⟨b, off, rfl, h⟩
 ·cases a with
  | none => exact run_convert_bytes_nil w 32 5 Tryz.underlying32 Tryz.underlying5 0 c 9 Tryz.underlying9
  | some a =>
   rw [List.length_nil, run_convert_bytes_string w 32 9 5 _ 0 c Tryz.underlying32 Tryz.underlying5 Tryz.underlying9, run_bytesToString w a 0 c [] (by simpa using run_loadCells_list (P := Tryz.prog) w a [] (by simp))]
   rfl
 ·have := run_convert_bytes_arg w 32 5 Tryz.underlying32 Tryz.underlying5 b off l.length c (l.map fun n : Nat => (n : Int)) (by simp) (fun i hi => by
   rw [h i hi]; simp [List.getD_eq_getElem?_getD, List.getElem?_eq_getElem hi]) 9 Tryz.underlying9
  rw [this]
  congr 3
  unfold strOfNums strB; rw [List.map_map]; congr 3
end Go.Proofs.YtngllchoiffniaaGreatDoor
end
section
namespace Go.Proofs.YtngllchoiffniaaGreatDoor
open Go.RowKit
def DInv (Vc : List Value) (Ph : (Nat → Bool) → World → Prop) (D : Nat → Bool) (V : Nat → Value) (w : World) : Prop := (∀ i, D i = true → V i = Vc.getD i undef) ∧ Ph D w
def yes : Value → Option Bool
 | .bool b => some b
 | _ => none
section
variable {P : Program} {Q : Exit → Act → World → Prop} {md : Region.Mode} {ops : Array Oper} {A : (Nat → Value) → Act} {Vc : List Value} {Ph : (Nat → Bool) → World → Prop} {i : Nat} {o : Oper}
theorem wp_region_inv0 {id : Nat} {a : Act} {w : World} {l : List Oper} (A : (Nat → Value) → Act) (I : (Nat → Bool) → (Nat → Value) → World → Prop) (hm : P.follows .mixedOrders = true) (hb : backB .any l 0 = true)
  (hn : nodupB (l.map (·.dst)) = true) (hA : ∀ V, putAll a V (l.map (·.dst)) 0 = A V) (hs : InvSteps P .any l.toArray Q A I l 0)
  (h0 : I (fun _ => false) (own0 a (l.map (·.dst))) { w with drawn := w.drawn + 1 })
  (hend : ∀ D V w', (∀ j, j < l.length → D j = true) → I D V w' → Q .normal (A V) w') : (Code.region id l.toArray true).wp P Q a w := by
 refine wp_region_any hm ?_
 have e0 : a = A (own0 a (l.map (·.dst))) := by
  rw [← hA, putAll_own]
  intro i d hi
  rw [Nat.zero_add, own0, hi]
 have h := inv_any (I := I) hb (fun V i o v ho => by
   rw [← hA, ← hA]
   have := putAll_upd (V := V) v (l.map (·.dst)) 0 i o.dst a hn (by rw [List.getElem?_map, ho]; rfl)
   rwa [Nat.zero_add] at this) hs hend l.toArray.size (Array.replicate l.toArray.size false) (own0 a (l.map (·.dst))) { w with drawn := w.drawn + 1 } (by simp) (by simpa using unl_le _ l.length)
   (by
    have e : (fun j => (Array.replicate l.toArray.size false).getD j false) = fun _ => false := by
     funext j
     by_cases h : j < l.length
     ·simp [h]
     ·simp [h]
    rw [e]; exact h0)
 rw [← e0] at h
 exact h
theorem DInv.next {D : Nat → Bool} {V : Nat → Value} {w w' : World} (h : DInv Vc Ph D V w) (v : Value) (hv : v = Vc.getD i undef) (hp : Ph (setD D i) w') : DInv Vc Ph (setD D i) (upd V i v) w' := by
 refine ⟨fun j hj => ?_, hp⟩
 unfold setD at hj
 unfold upd
 by_cases e : j = i
 ·subst e; rw [if_pos rfl]; exact hv
 ·rw [if_neg e] at hj; rw [if_neg e]; exact h.1 j hj
theorem det_free (hg : o.guard = none)
  (h : ∀ (D : Nat → Bool) (V : Nat → Value) (w : World), D i = false → Shut (∀ j, (o.after.any fun e => Region.binds md e && e.on == j) = true → D j = true ∧ V j = Vc.getD j undef) → Ph D w →
   ∀ K : Act → World → Prop, Shut (∀ w', Ph (setD D i) w' → K ((A V).put o.dst (Vc.getD i undef)) w') → Oper.wp P o (A V) w K Q) : InvStep P md ops Q A (DInv Vc Ph) i o := by
 intro D V w hDi hpre hI K hK
 rw [if_pos (show Region.wanted o (yielded ops (A V).tmps) = true by simp [Region.wanted, hg])]
 exact h D V w hDi (fun j hj => ⟨hpre j hj, hI.1 j (hpre j hj)⟩) hI.2 K (fun w' hp => hK _ _ w' rfl (hI.next _ rfl hp))
theorem det_on (j : Nat) (b : Bool) (hg : o.guard = some (j, b)) (ha : (o.after.any fun e => Region.binds md e && e.on == j) = true) (hy : ∀ V, yielded ops (A V).tmps j = yes (V j)) (hv : Vc.getD j undef = .bool b)
  (h : ∀ (D : Nat → Bool) (V : Nat → Value) (w : World), D i = false → Shut (∀ j, (o.after.any fun e => Region.binds md e && e.on == j) = true → D j = true ∧ V j = Vc.getD j undef) → Ph D w →
   ∀ K : Act → World → Prop, Shut (∀ w', Ph (setD D i) w' → K ((A V).put o.dst (Vc.getD i undef)) w') → Oper.wp P o (A V) w K Q) : InvStep P md ops Q A (DInv Vc Ph) i o := by
 intro D V w hDi hpre hI K hK
 have e : V j = .bool b := (hI.1 j (hpre j ha)).trans hv
 rw [if_pos (show Region.wanted o (yielded ops (A V).tmps) = true by simp [Region.wanted, hg, hy, e, yes])]
 exact h D V w hDi (fun j hj => ⟨hpre j hj, hI.1 j (hpre j hj)⟩) hI.2 K (fun w' hp => hK _ _ w' rfl (hI.next _ rfl hp))
theorem det_off (j : Nat) (b : Bool) (hg : o.guard = some (j, b)) (ha : (o.after.any fun e => Region.binds md e && e.on == j) = true) (hy : ∀ V, yielded ops (A V).tmps j = yes (V j)) (hv : Vc.getD j undef = .bool (!b)) (hu : Vc.getD i undef = undef)
  (h : ∀ (D : Nat → Bool) (w : World), D i = false → Shut (∀ j, (o.after.any fun e => Region.binds md e && e.on == j) = true → D j = true) → Ph D w → Ph (setD D i) w) : InvStep P md ops Q A (DInv Vc Ph) i o := by
 intro D V w hDi hpre hI K hK
 have e : V j = .bool (!b) := (hI.1 j (hpre j ha)).trans hv
 rw [if_neg (show ¬ Region.wanted o (yielded ops (A V).tmps) = true by simp [Region.wanted, hg, hy, e, yes])]
 exact hK _ undef w rfl (hI.next _ hu.symm (h D w hDi hpre hI.2))
end
end Go.Proofs.YtngllchoiffniaaGreatDoor
end
section
namespace Go.Proofs.YtngllchoiffniaaGreatDoor
open Go.RowKit
section
variable {P : Program}
theorem step_append_lies {ops : Array Oper} {o : Oper} {a : Act} {w : World} {K : Act → World → Prop} {Q : Exit → Act → World → Prop} {E : Prop}
  (hg : o.guard = none) (s x : Operand) (t : TypeId) (ho : o.op = .call { callee := .builtin .append, args := #[s, x], argTypes := #[t, t] })
  (base : Nat) (e : TypeId) (i : TypeInfo) (z : Value) (size bytes : Nat) (ht : P.underlying t = some (.slice e)) (hi : P.info? e = some i) (hz : i.zero = some z)
  (hsize : i.size = size) (hby : i.bytes = bytes) (hzs : z.cells.size = size) (hsz : 0 < size) (v : Value) (n : Nat) (xs : List Value) (hs : a.eval s = v) (hown : w.ownsRow base e size v n xs)
  (ad : Addr) (m c : Nat) (news : List Value) (hx : a.eval x = .slice (some ad) m c) (hl : news.length = m * size) (hm : 0 < m) (hnews : ∀ j u, news[j]? = some u → w.cell? (ad.add j) = some u) (h1 : ∀ u ∈ news, u.oneCell' = true)
  (h63 : n + m ≤ maxLen) (hbytes : (n + m) * bytes ≤ 140737488355328) (hbase : base ≤ w.heap.size)
  (h : ∀ v' w', w'.ownsRow base e size v' (n + m) (xs ++ news) → Lies w w' v v' → K (a.put o.dst v') w') :
  if Region.wanted o (yielded ops a.tmps) = true then Oper.wp P o a w K Q else E := by
 have hw : Region.wanted o (yielded ops a.tmps) = true := by simp [Region.wanted, hg]
 rw [if_pos hw]
 obtain ⟨v', w', hr, h2, h3⟩ := run_append_sz (P := P) w base t o.type e i z size bytes ht hi hz hsize hby hzs v n xs hown ad m c news hl hm hsz hnews h1 h63 hbytes hbase
 unfold Oper.wp execOp
 simp only [ho, resolve, invoke, builtin, Sem.run_bind, Sem.run_pure, Result.andThen_ok, List.map_toArray, List.map_cons, List.map_nil, hs, hx, hr]
 exact h v' w' h2 h3
end
end Go.Proofs.YtngllchoiffniaaGreatDoor
end
section
namespace Go.Proofs.YtngllchoiffniaaGreatDoor
open Go.RowKit
def Wrote (w w' : World) (v v' : Value) : Prop := w.grownBy w' v.ownBlock ∧ (v'.ownBlock = v.ownBlock ∨ ∃ g, v'.ownBlock = some g ∧ w.heap.size ≤ g)
theorem Wrote.of_lies {w w' : World} {v v' : Value} (h : Lies w w' v v') : Wrote w w' v v' := by
 rcases h with ⟨h1, h2⟩ | ⟨h1, h2⟩
 ·exact ⟨h2, .inl h1⟩
 ·exact ⟨⟨h2.os, h2.tape, h2.output, h2.size, fun g hg _ => h2.block g hg nofun⟩, .inr ⟨_, h1, Nat.le_refl _⟩⟩
theorem Wrote.refl (w : World) (v : Value) : Wrote w w v v := ⟨World.grownBy.refl w _, .inl rfl⟩
theorem Wrote.below {w w' w2 : World} {v v' : Value} (h : Wrote w w' v v') (hb : Below w'.heap.size w' w2) : Wrote w w2 v v' :=
 ⟨⟨hb.os.trans h.1.os, hb.tape.trans h.1.tape, hb.output.trans h.1.output, Nat.le_trans h.1.size hb.size, fun g hg hne => (hb.block g (Nat.lt_of_lt_of_le hg h.1.size)).trans (h.1.block g hg hne)⟩, h.2⟩
theorem Wrote.of_below {w w' w2 : World} {v v' : Value} (hb : Below w.heap.size w w') (h : Wrote w' w2 v v') : Wrote w w2 v v' :=
 ⟨⟨h.1.os.trans hb.os, h.1.tape.trans hb.tape, h.1.output.trans hb.output, Nat.le_trans hb.size h.1.size, fun g hg hne => (h.1.block g (Nat.lt_of_lt_of_le hg hb.size) hne).trans (hb.block g hg)⟩,
  by rcases h.2 with h2 | ⟨g, h2, h3⟩
     · exact .inl h2
     · exact .inr ⟨g, h2, Nat.le_trans hb.size h3⟩⟩
theorem Wrote.trans {w w1 w2 : World} {v v1 v2 : Value} (h : Wrote w w1 v v1) (h' : Wrote w1 w2 v1 v2) : Wrote w w2 v v2 := by
 refine ⟨⟨h'.1.os.trans h.1.os, h'.1.tape.trans h.1.tape, h'.1.output.trans h.1.output, Nat.le_trans h.1.size h'.1.size, fun g hg hne => ?_⟩, ?_⟩
 ·refine (h'.1.block g (Nat.lt_of_lt_of_le hg h.1.size) ?_).trans (h.1.block g hg hne)
  rcases h.2 with h2 | ⟨g2, h2, h3⟩
  ·rw [h2]; exact hne
  ·rw [h2]; intro e; have := Option.some.inj e; omega
 ·rcases h'.2 with h2 | ⟨g2, h2, h3⟩
  ·rw [h2]; exact h.2
  ·exact .inr ⟨g2, h2, Nat.le_trans h.1.size h3⟩
theorem owns_below {w w' : World} {base : Nat} {e : TypeId} {size : Nat} {v : Value} {n : Nat} {xs : List Value} (h : w.ownsRow base e size v n xs) (hb : Below w.heap.size w w') : w'.ownsRow base e size v n xs := by
 obtain ⟨h1, h2 | ⟨g, cap, cur, e, hg, hrow, h3⟩⟩ := h
 ·exact ⟨h1, .inl h2⟩
 ·exact ⟨h1, .inr ⟨g, cap, cur, e, hg, (hb.block g (Array.getElem?_eq_some_iff.1 hrow).1).trans hrow, h3⟩⟩
theorem owns_block {w : World} {base : Nat} {e : TypeId} {size : Nat} {v : Value} {n : Nat} {xs : List Value} (h : w.ownsRow base e size v n xs) {g : Nat} (hg : v.ownBlock = some g) : base ≤ g ∧ g < w.heap.size := by
 obtain ⟨_, ⟨rfl, _⟩ | ⟨b, cap, cur, rfl, hb, hrow, _⟩⟩ := h
 ·cases hg
 ·obtain rfl : b = g := Option.some.inj hg
  exact ⟨hb, (Array.getElem?_eq_some_iff.1 hrow).1⟩
end Go.Proofs.YtngllchoiffniaaGreatDoor
end
