/- Append, BsonApp, BsonMath, Law, NumMath, RegFacts, SealMath, Shelf. -/
import Derived.Test.YtiajjgehnmkokaaGreatDoorRows
import Derived.Laws.AppendOwn
import Derived.Laws.OwnMore
import Derived.OwnWalk
import Derived.WalkKit
import Derived.Maps.AppendAt
import Derived.Lib.ValidU
import Derived.Lib.ItoaNum
import Derived.ProofKit
import Derived.OpenShut
import Derived.Deep.DeepHandedRow
import Derived.Carry
import Derived.RowKit
import Derived.IntWalk
import Derived.Laws.Entries
import Derived.Below
import Derived.Deep.RegionHeld
import Derived.Shelf.Unicode.ValidAny
import Derived.Shelf.Strings.Builder1
import Derived.Shelf.Strings.Builder2
import Derived.Shelf.Small.Strs
import Derived.Shelf.Strings.Search1
import Derived.Shelf.Strings.Search2
import Derived.Shelf.Strings.Cut
import Derived.Shelf.LaysM
import Derived.Shelf.Strings.Shaped
import Derived.Ground.Names2Prog
import Derived.Shelf.Slices.Clone
import Derived.Ground.SlbCloneProg
import Derived.Shelf.Bytes.SlClone
import Derived.Test.YtiajjgehnmkokaaGreatDoorProg
set_option maxRecDepth 100000
set_option maxHeartbeats 20000000
section
namespace Go.Proofs.YtiajjgehnmkokaaGreatDoor
open Go.RowKit
section
variable {P : Program} (w : World)
def Lies (w w' : World) (v v' : Value) : Prop := (v'.ownBlock = v.ownBlock ∧ w.grownBy w' v.ownBlock) ∨ (v'.ownBlock = some w.heap.size ∧ w.grownBy w' none)
end
end Go.Proofs.YtiajjgehnmkokaaGreatDoor
end
section
namespace Go.Proofs.YtiajjgehnmkokaaGreatDoor
open Go.RowKit
def Src (w : World) (a : Option Addr) (m : Nat) (news : List Value) : Prop := (a = none → m = 0) ∧ ∀ ad, a = some ad → ∀ j u, news[j]? = some u → w.cell? (ad.add j) = some u
section
variable {P : Program}
theorem run_none (w : World) (base : Nat) (t ty e : TypeId) (i : TypeInfo) (ht : P.underlying t = some (.slice e)) (hi : P.info? e = some i) (c : Nat)
  (v : Value) (n : Nat) (xs : List Value) (hown : w.ownsRow base e i.size v n xs) : (Builtin.append_ #[t, t] ty #[v, .slice none 0 c]).run P w = .ok v w := by
 obtain ⟨_, ⟨rfl, rfl⟩ | ⟨g, cap, cur, rfl, _, _, hnc, _⟩⟩ := hown
 ·simp [Builtin.append_, run_underlying ht, sizeOf, typeInfo, hi, Builtin.lenOf, Builtin.firstCells]
 ·simp [Builtin.append_, run_underlying ht, sizeOf, typeInfo, hi, Builtin.lenOf, Builtin.firstCells, hnc, storeCells]
theorem run_src (w : World) (base : Nat) (t ty e : TypeId) (i : TypeInfo) (z : Value) (size bytes : Nat) (ht : P.underlying t = some (.slice e)) (hi : P.info? e = some i) (hz : i.zero = some z)
  (hsize : i.size = size) (hby : i.bytes = bytes) (hzs : z.cells.size = size) (hsz : 0 < size) (v : Value) (n : Nat) (xs : List Value) (hown : w.ownsRow base e size v n xs)
  (a : Option Addr) (m c : Nat) (news : List Value) (hs : Src w a m news) (hl : news.length = m * size) (h1 : ∀ u ∈ news, u.oneCell' = true)
  (h63 : n + m ≤ maxLen) (hbytes : (n + m) * bytes ≤ 140737488355328) (hbase : base ≤ w.heap.size) :
  ∃ v' w', (Builtin.append_ #[t, t] ty #[v, .slice a m c]).run P w = .ok v' w' ∧ w'.ownsRow base e size v' (n + m) (xs ++ news) ∧ w.grownBy w' v.ownBlock := by
 cases a with
 | none =>
  obtain rfl : m = 0 := hs.1 rfl
  obtain rfl : news = [] := List.eq_nil_of_length_eq_zero (by simpa using hl)
  subst hsize
  exact ⟨v, w, run_none w base t ty e i ht hi c v n xs hown, by simpa using hown, World.grownBy.refl w _⟩
 | some ad =>
  obtain ⟨v', w', hr, h2, h3, _⟩ := run_append_own_at (P := P) w base t ty e i z size bytes ht hi hz hsize hby hzs hsz v n xs hown ad m c news hl (hs.2 ad rfl) h1 h63 hbytes hbase
  exact ⟨v', w', hr, h2, h3⟩
end
end Go.Proofs.YtiajjgehnmkokaaGreatDoor
end
section
namespace Bson
open Go
inductive Val where
 | mk (kind n : Int) (s : ByteArray) (b : List Nat) (f : List (ByteArray × Val)) (l : List Val)
def Val.kind : Val → Int | .mk k _ _ _ _ _ => k
def Val.n : Val → Int | .mk _ n _ _ _ _ => n
def Val.s : Val → ByteArray | .mk _ _ s _ _ _ => s
def Val.b : Val → List Nat | .mk _ _ _ b _ _ => b
def Val.f : Val → List (ByteArray × Val) | .mk _ _ _ _ f _ => f
def Val.l : Val → List Val | .mk _ _ _ _ _ l => l
def none_ : ByteArray := ⟨#[]⟩
def zero : Val := .mk 0 0 none_ [] [] []
def le : Nat → Nat → List Nat
 | _, 0 => []
 | x, n + 1 => x % 256 :: le (x / 256) n
def leN : List Nat → Nat
 | [] => 0
 | c :: r => c + 256 * leN r
def signed (l : List Nat) : Int := if leN l < 256 ^ l.length / 2 then (leN l : Int) else (leN l : Int) - (256 ^ l.length : Nat)
def leI (x : Int) (n : Nat) : List Nat := le (x % (256 ^ n : Nat)).toNat n
def bytes (s : ByteArray) : List Nat := s.data.toList.map UInt8.toNat
def ofBytes (l : List Nat) : ByteArray := ⟨(l.map UInt8.ofNat).toArray⟩
def u8 (s : ByteArray) : Bool := Lib.validD s.data.toList
def digits (n : Nat) : ByteArray := ⟨(Lib.decDigits n).toArray⟩
def code (k : Int) : Nat :=
 if k = 1 then 0xff else if k = 2 then 0x0a else if k = 3 then 0x10 else if k = 4 then 0x12 else if k = 5 then 0x02 else if k = 6 then 0x03 else if k = 7 then 0x04
 else if k = 8 then 0x05 else if k = 9 then 0x07 else if k = 10 then 0x08 else if k = 11 then 0x09 else if k = 12 then 0x7f else 0
def bare (v : Val) (n s b f l : Bool) : Bool := (n || v.n == 0) && (s || v.s.size == 0) && (b || v.b.isEmpty) && (f || v.f.isEmpty) && (l || v.l.isEmpty)
def nameMay (s : ByteArray) : Bool := decide (0 ∉ bytes s) && decide (s.size ≤ 120) && u8 s
def wrap (l : List Nat) : List Nat := leI ((l.length : Int) + 5) 4 ++ (l ++ [0])
def scalarP (k n : Int) (s : ByteArray) (b : List Nat) (v : Val) : Option (List Nat) :=
 if k = 1 ∨ k = 2 ∨ k = 12 then (if bare v false false false false false then some [] else none)
 else if k = 3 then (if bare v true false false false false && decide (-2147483648 ≤ n) && decide (n < 2147483648) then some (leI n 4) else none)
 else if k = 4 ∨ k = 11 then (if bare v true false false false false && decide (-9223372036854775808 ≤ n) && decide (n < 9223372036854775808) then some (leI n 8) else none)
 else if k = 10 then (if bare v true false false false false && (n == 0 || n == 1) then some (leI n 1) else none)
 else if k = 5 then (if bare v false true false false false && u8 s then some (leI (s.size + 1) 4 ++ (bytes s ++ [0])) else none)
 else if k = 8 then (if bare v false false true false false then some (leI b.length 4 ++ (0 :: b)) else none)
 else if k = 9 then (if bare v false false true false false && b.length == 12 then some b else none)
 else none
def scalar (v : Val) : Option (List Nat) := scalarP v.kind v.n v.s v.b v
def row (e : Val → Option (List Nat)) : List (ByteArray × Val) → Option (List Nat)
 | [] => some []
 | (s, v) :: r => match nameMay s, e v, row e r with
  | true, some x, some y => some (code v.kind :: (bytes s ++ (0 :: (x ++ y))))
  | _, _, _ => none
def named (l : List Val) : List (ByteArray × Val) := (List.range l.length).zipWith (fun i v => (digits i, v)) l
def enc : Nat → Val → Option (List Nat)
 | 0, v => scalar v
 | d + 1, v =>
  if v.kind = 6 then (if bare v false false false true false && decide (v.f.map (·.1)).Nodup then (row (enc d) v.f).map wrap else none)
  else if v.kind = 7 then (if bare v false false false false true then (row (enc d) (named v.l)).map wrap else none)
  else scalar v
inductive Res (α : Type) where
 | err (e : Nat)
 | ok (x : α) (rest : List Nat)
def Res.bind {α β : Type} : Res α → (α → List Nat → Res β) → Res β
 | .err e, _ => .err e
 | .ok x r, f => f x r
def take (n : Nat) (l : List Nat) : Res (List Nat) := if l.length < n then .err 2 else .ok (l.take n) (l.drop n)
def name (l : List Nat) : Res ByteArray :=
 if l.findIdx (· == 0) = l.length then .err 2
 else if u8 (ofBytes (l.take (l.findIdx (· == 0)))) = false then .err 5
 else if 120 < l.findIdx (· == 0) then .err 15
 else .ok (ofBytes (l.take (l.findIdx (· == 0)))) (l.drop (l.findIdx (· == 0) + 1))
def text (l : List Nat) : Res Val := (take 4 l).bind fun h r => if signed h < 1 then .err 4 else (take (signed h).toNat r).bind fun t r' =>
 if t.getD (t.length - 1) 0 ≠ 0 then .err 4 else if u8 (ofBytes (t.take (t.length - 1))) = false then .err 5 else .ok (.mk 5 0 (ofBytes (t.take (t.length - 1))) [] [] []) r'
def blob (l : List Nat) : Res Val := (take 5 l).bind fun h r => if signed (h.take 4) < 0 ∨ h.getD 4 0 ≠ 0 then .err 4 else (take (signed (h.take 4)).toNat r).bind fun t r' => .ok (.mk 8 0 none_ t [] []) r'
def number (k : Int) (n : Nat) (l : List Nat) : Res Val := (take n l).bind fun h r => .ok (.mk k (signed h) none_ [] [] []) r
def bool (l : List Nat) : Res Val := (take 1 l).bind fun h r => if signed h ≠ 0 ∧ signed h ≠ 1 then .err 4 else .ok (.mk 10 (signed h) none_ [] [] []) r
def float (n : Nat) (l : List Nat) : Res Val := (take n l).bind fun _ _ => .err 8
def ident (l : List Nat) : Res Val := (take 12 l).bind fun h r => .ok (.mk 9 0 none_ h [] []) r
def scalarOf (c : Nat) (l : List Nat) : Res Val :=
 if c = 0x01 then float 8 l else if c = 0x02 then text l else if c = 0x05 then blob l else if c = 0x07 then ident l else if c = 0x08 then bool l
 else if c = 0x09 then number 11 8 l else if c = 0x0a then .ok (.mk 2 0 none_ [] [] []) l else if c = 0x10 then number 3 4 l else if c = 0x12 then number 4 8 l
 else if c = 0x13 then float 16 l else if c = 0x7f then .ok (.mk 12 0 none_ [] [] []) l else if c = 0xff then .ok (.mk 1 0 none_ [] [] []) l else .err 9
def known (c : Nat) : Bool := c == 0x01 || c == 0x02 || c == 0x03 || c == 0x04 || c == 0x05 || c == 0x07 || c == 0x08 || c == 0x09 || c == 0x0a || c == 0x10 || c == 0x12 || c == 0x13 || c == 0x7f || c == 0xff
def loop (val : Nat → List Nat → Res Val) (list : Bool) : Nat → List (ByteArray × Val) → List Nat → Res (List (ByteArray × Val))
 | 0, _, _ => .err 2
 | _ + 1, _, [] => .err 2
 | g + 1, acc, c :: r =>
  if c = 0 then .ok acc r
  else if known c = false then .err 9
  else (name r).bind fun s r2 =>
   if list = true ∧ s ≠ digits acc.length then .err 4
   else if acc.any (fun p => decide (p.1 = s)) = true then .err 6
   else (val c r2).bind fun v r3 => loop val list g (acc ++ [(s, v)]) r3
def shut (list : Bool) (fs : List (ByteArray × Val)) : Val := if list then .mk 7 0 none_ [] [] (fs.map (·.2)) else .mk 6 0 none_ [] fs []
def valOf (d3 d4 : List Nat → Res Val) (c : Nat) (l : List Nat) : Res Val := if c = 0x03 then d3 l else if c = 0x04 then d4 l else scalarOf c l
def doc : Nat → Bool → Option Nat → List Nat → Res Val
 | 0, _, _, _ => .err 7
 | d + 1, list, outer, l => (take 4 l).bind fun h r =>
  if signed h < 5 ∨ (∃ n, outer = some n ∧ signed h ≠ n) then .err 4
  else (loop (valOf (doc d false none) (doc d true none)) list (r.length + 1) [] r).bind fun fs r' =>
   if (l.length : Int) - r'.length ≠ signed h then .err 4 else .ok (shut list fs) r'
end Bson
end
section
namespace Go.Proofs.YtiajjgehnmkokaaGreatDoor
open Go.ChangeShapes Go.WideShapes Go.ChangeAt Go.RowKit
section
variable {H : Type} {enc : TypeId × Value → H} {P : Program}
theorem args_stay (hl : laidOutB P = true) {W W' : World} (hb : Below W.heap.size W W') : ∀ (ts : List TypeId) (vs : List Value) (ds : List (DataW H)) (ps : List MemPlace),
  (ts.all fun t => P.readableRec t && decide (t < P.types.size)) = true → DataW.TrodAll enc P W 0 (fun _ => true) true ts vs ds ps → (∀ x ∈ ps, x.block < W.heap.size) →
  DataW.TrodAll enc P W' 0 (fun b => decide (b < W.heap.size)) true ts vs ds ps
 | [], [], [], _, _, h, _ => h
 | t :: ts, v :: vs, d :: ds, ps, ht, ⟨p, q, h1, h2, e⟩, hlt => by
  simp only [List.all_cons, Bool.and_eq_true, decide_eq_true_eq] at ht
  refine ⟨p, q, Below.trod hl ht.1.1 ht.1.2 h1 hb (fun x hx => hlt x (by rw [e]; simp [hx])), args_stay hl hb ts vs ds q ht.2 h2 (fun x hx => hlt x (by rw [e]; simp [hx])), e⟩
 | [], [], _ :: _, _, _, h, _ => h.elim
 | [], _ :: _, [], _, _, h, _ => h.elim
 | [], _ :: _, _ :: _, _, _, h, _ => h.elim
 | _ :: _, [], [], _, _, h, _ => h.elim
 | _ :: _, [], _ :: _, _, _, h, _ => h.elim
 | _ :: _, _ :: _, [], _, _, h, _ => h.elim
theorem law_end {f : Func} {s : ChangeSpec} {W W' : World} {args : Array Value} {ds gs : List (DataW H)} {before : List MemPlace} (tb : TypeId) (hl : laidOutB P = true) (hbool : P.underlying tb = some .bool)
  (hts : (f.params.toList.all fun t => P.readableRec t && decide (t < P.types.size)) = true) (hres : f.resultTypes = #[tb]) (hv : s.vars = [])
  (hW : DataW.Whole enc P f.params.toList s.vars false W args.toList ds gs before) (hspec : s.fn H (ds ++ gs) = { results := [.lit (.bool true)], args := ds }) (hb : Below W.heap.size W W') :
  s.post enc P f false true false false W args (.bool true) W' := by
 have hW' := hW
 obtain ⟨p, q, hA, hV, rfl, _, _⟩ := hW
 have hlt : ∀ x ∈ p, x.block < W.heap.size := fun x hx => hW'.lt x (by simp [hx])
 refine ⟨ds, gs, p ++ q, [], p, [], hW', ?_, ?_, ?_, hb.frame _, fun h => by cases h⟩
 ·rw [hspec, hres]
  exact trodAll_cons_mk (shut_bool hbool true) trodAll_mk0
 ·rw [hspec]
  exact args_stay hl hb _ _ _ _ hts hA hlt
 ·rw [hspec, hv]; rfl
end
theorem u8_wf {n : Int} (h : (Lit.int .u8 n).wf = true) : 0 ≤ n ∧ n < 256 := by
 have h1 : IntKind.u8.min = 0 := rfl
 have h2 : IntKind.u8.max = 255 := rfl
 simp only [Lit.wf, Bool.and_eq_true, decide_eq_true_eq] at h
 omega
theorem own : ownKnob Tryz.prog.godebug = none := by kernel_rfl
theorem laidOut : laidOutB Tryz.prog = true := by kernel_rfl
end Go.Proofs.YtiajjgehnmkokaaGreatDoor
end
section
namespace Go.Proofs.YtiajjgehnmkokaaGreatDoor
open Go.RowKit
namespace Num
def In (n : Int) : Prop := -9223372036854775808 ≤ n ∧ n ≤ 9223372036854775807
instance (n : Int) : Decidable (In n) := by unfold In; exact inferInstance
theorem wrap_in (n : Int) : In (wrap64 n) := by unfold In wrap64; omega
theorem wrap_toNat (X : BitVec 64) : IntKind.i64.wrap (X.toNat : Int) = X.toInt := by
 rw [IntWalk.i64_left, BitVec.toInt_eq_toNat_cond]
 have := X.isLt
 unfold wrap64
 split <;> omega
theorem bits_xor (a b : Int) : bits .xor .i64 a b = (BitVec.ofInt 64 a ^^^ BitVec.ofInt 64 b).toInt := wrap_toNat _
theorem bits_and (a b : Int) : bits .and .i64 a b = (BitVec.ofInt 64 a &&& BitVec.ofInt 64 b).toInt := wrap_toNat _
theorem msb_of {a : Int} (h : In a) : (BitVec.ofInt 64 a).msb = decide (a < 0) := by
 rw [BitVec.msb_eq_toInt, BitVec.toInt_ofInt]
 unfold In at h
 have : a.bmod (2 ^ 64) = a := by
  apply Int.bmod_eq_of_le <;> omega
 rw [this]
theorem sign_two {a b n : Int} (ha : In a) (hb : In b) (hn : In n) : (bits .and .i64 (bits .xor .i64 a n) (bits .xor .i64 b n) < 0) ↔ ((a < 0 ∧ 0 ≤ n ∧ b < 0) ∨ (0 ≤ a ∧ n < 0 ∧ 0 ≤ b)) := by
 have e : (bits .and .i64 (bits .xor .i64 a n) (bits .xor .i64 b n) < 0) ↔ (BitVec.ofInt 64 (bits .xor .i64 a n) &&& BitVec.ofInt 64 (bits .xor .i64 b n)).msb = true := by
  rw [bits_and, BitVec.msb_eq_toInt, decide_eq_true_eq]
 rw [e, bits_xor, bits_xor, BitVec.ofInt_toInt, BitVec.ofInt_toInt, BitVec.msb_and, BitVec.msb_xor, BitVec.msb_xor, msb_of ha, msb_of hb, msb_of hn]
 by_cases h1 : a < 0 <;> by_cases h2 : b < 0 <;> by_cases h3 : n < 0 <;> simp [h1, h2, h3] <;> omega
theorem sum_sign {a b : Int} (ha : In a) (hb : In b) : 0 ≤ bits .and .i64 (bits .xor .i64 a (wrap64 (a + b))) (bits .xor .i64 b (wrap64 (a + b))) ↔ In (a + b) := by
 have h := sign_two ha hb (wrap_in (a + b))
 rw [← Int.not_lt, h]
 unfold In at *
 unfold wrap64
 omega
theorem sign_dif {a b n : Int} (ha : In a) (hb : In b) (hn : In n) : (bits .and .i64 (bits .xor .i64 a b) (bits .xor .i64 a n) < 0) ↔ ((a < 0 ∧ 0 ≤ n ∧ 0 ≤ b) ∨ (0 ≤ a ∧ n < 0 ∧ b < 0)) := by
 have e : (bits .and .i64 (bits .xor .i64 a b) (bits .xor .i64 a n) < 0) ↔ (BitVec.ofInt 64 (bits .xor .i64 a b) &&& BitVec.ofInt 64 (bits .xor .i64 a n)).msb = true := by
  rw [bits_and, BitVec.msb_eq_toInt, decide_eq_true_eq]
 rw [e, bits_xor, bits_xor, BitVec.ofInt_toInt, BitVec.ofInt_toInt, BitVec.msb_and, BitVec.msb_xor, BitVec.msb_xor, msb_of ha, msb_of hb, msb_of hn]
 by_cases h1 : a < 0 <;> by_cases h2 : b < 0 <;> by_cases h3 : n < 0 <;> simp [h1, h2, h3] <;> omega
theorem dif_sign {a b : Int} (ha : In a) (hb : In b) : 0 ≤ bits .and .i64 (bits .xor .i64 a b) (bits .xor .i64 a (wrap64 (a - b))) ↔ In (a - b) := by
 have h := sign_dif ha hb (wrap_in (a - b))
 rw [← Int.not_lt, h]
 unfold In at *
 unfold wrap64
 omega
theorem tdiv_in {a b : Int} (ha : In a) (h : ¬ (a = -9223372036854775808 ∧ b = -1)) : In (a.tdiv b) := by
 unfold In at *
 have h1 : (a.tdiv b).natAbs ≤ a.natAbs := by
  rw [Int.natAbs_tdiv]; exact Nat.div_le_self _ _
 by_cases hm : a = -9223372036854775808
 ·have hb : b ≠ -1 := fun e => h ⟨hm, e⟩
  by_cases h0 : b = 0
  ·subst h0; simp
  by_cases hp : b = 1
  ·subst hp; simp; omega
  have h2 : 2 ≤ b.natAbs := by omega
  have h3 : (a.tdiv b).natAbs ≤ a.natAbs / 2 := by
   rw [Int.natAbs_tdiv]; exact Nat.div_le_div_left h2 (by omega)
  omega
 ·omega
theorem tdiv_not {a b : Int} (h : a = -9223372036854775808 ∧ b = -1) : ¬ In (a.tdiv b) := by
 obtain ⟨rfl, rfl⟩ := h; decide
theorem tmod_in {a b : Int} (ha : In a) : In (a.tmod b) := by
 unfold In at *
 have h1 : (a.tmod b).natAbs ≤ a.natAbs := by
  rw [Int.natAbs_tmod]; exact Nat.mod_le _ _
 rcases Int.le_total 0 a with h | h
 ·have := Int.tmod_nonneg b h
  omega
 ·have := Int.tmod_nonneg b (a := -a) (by omega)
  rw [Int.neg_tmod] at this
  omega
theorem mul_asked {a b : Int} (hA : In a) (hb : In b) (h0 : a ≠ 0) : (wrap64 ((wrap64 (a * b)).tdiv a) = b ∧ ¬ (b = -9223372036854775808 ∧ a = -1)) ↔ In (a * b) := by
 constructor
 ·rintro ⟨h1, h2⟩
  by_cases hm : a = -1
  ·subst hm
   unfold In at *
   have : b ≠ -9223372036854775808 := fun e => h2 ⟨e, rfl⟩
   omega
  have hn := wrap_in (a * b)
  have hq : In ((wrap64 (a * b)).tdiv a) := tdiv_in hn (fun h => hm h.2)
  rw [IntWalk.wrap64_in _ hq] at h1
  have hd := Int.mul_tdiv_add_tmod (wrap64 (a * b)) a
  rw [h1] at hd
  have ha : ((wrap64 (a * b)).tmod a).natAbs < a.natAbs := by
   rw [Int.natAbs_tmod]; exact Nat.mod_lt _ (by omega)
  generalize hm2 : a * b = m at *
  generalize (wrap64 m).tmod a = r at *
  have hk : ∃ k : Int, wrap64 m = m + k * 18446744073709551616 := ⟨-((m + 9223372036854775808) / 18446744073709551616), by unfold wrap64; omega⟩
  obtain ⟨k, hk⟩ := hk
  have hk0 : k = 0 := by unfold In at hA; omega
  subst hk0
  unfold In at *
  omega
 ·intro h
  rw [IntWalk.wrap64_in _ h, Int.mul_tdiv_cancel_left _ h0, IntWalk.wrap64_in _ hb]
  refine ⟨rfl, ?_⟩
  rintro ⟨rfl, rfl⟩
  exact absurd h (by decide)
end Num
end Go.Proofs.YtiajjgehnmkokaaGreatDoor
end
section
namespace Go.Proofs.YtiajjgehnmkokaaGreatDoor
open Go.RowKit
structure Fact where
 p : Value → World → Prop
 keep : ∀ v w w', p v w → Below w.heap.size w w' → p v w'
def Fact.any : Fact := ⟨fun _ _ => True, fun _ _ _ h _ => h⟩
def Fact.is (u : Value) : Fact := ⟨fun v _ => v = u, fun _ _ _ h _ => h⟩
def putAll (a : Act) (V : Nat → Value) : List (Option Tmp) → Nat → Act
 | [], _ => a
 | d :: r, k => putAll (a.put d (V k)) V r (k + 1)
def upd (V : Nat → Value) (i : Nat) (v : Value) : Nat → Value := fun j => if j = i then v else V j
theorem putAll_congr {V V' : Nat → Value} : ∀ (r : List (Option Tmp)) (k : Nat) (a : Act), (∀ j, k ≤ j → V j = V' j) → putAll a V r k = putAll a V' r k
 | [], _, _, _ => rfl
 | d :: r, k, a, h => by
  rw [putAll, putAll, h k (Nat.le_refl _)]
  exact putAll_congr r (k + 1) _ (fun j hj => h j (by omega))
theorem putAll_put {V : Nat → Value} {x : Option Tmp} (v : Value) : ∀ (r : List (Option Tmp)) (k : Nat) (a : Act), (∀ d, x = some d → some d ∉ r) → (putAll a V r k).put x v = putAll (a.put x v) V r k
 | [], _, _, _ => rfl
 | d :: r, k, a, h => by
  rw [putAll, putAll, putAll_put v r (k + 1) _ (fun e he hm => h e he (List.mem_cons_of_mem _ hm))]
  congr 1
  refine Act.put_comm a _ _ (fun e he hx => ?_)
  exact h e hx (by rw [he]; exact List.mem_cons_self)
theorem put_put (a : Act) (x : Option Tmp) (u v : Value) : (a.put x u).put x v = a.put x v := by
 cases x with
 | none => rfl
 | some d => simp [Act.put]
def nodupB : List (Option Tmp) → Bool
 | [] => true
 | none :: r => nodupB r
 | some d :: r => !r.contains (some d) && nodupB r
theorem nodup_head {x : Option Tmp} {r : List (Option Tmp)} (h : nodupB (x :: r) = true) : (∀ d, x = some d → some d ∉ r) ∧ nodupB r = true := by
 cases x with
 | none => exact ⟨nofun, h⟩
 | some d =>
  rw [nodupB, Bool.and_eq_true] at h
  refine ⟨fun e he hm => ?_, h.2⟩
  cases he
  have h1 := h.1
  rw [Bool.not_eq_true', ← Bool.not_eq_true, List.contains_iff_mem] at h1
  exact h1 hm
theorem putAll_upd {V : Nat → Value} (v : Value) : ∀ (ds : List (Option Tmp)) (k i : Nat) (x : Option Tmp) (a : Act), nodupB ds = true → ds[i]? = some x → (putAll a V ds k).put x v = putAll a (upd V (k + i) v) ds k
 | [], _, _, _, _, _, h => by simp at h
 | d :: r, k, 0, x, a, hn, h => by
  obtain ⟨h1, h2⟩ := nodup_head hn
  obtain rfl : d = x := by simpa using h
  rw [putAll, putAll, putAll_put v r _ _ h1, put_put, show upd V (k + 0) v k = v from if_pos rfl]
  exact putAll_congr r _ _ (fun j hj => (if_neg (by omega)).symm)
 | d :: r, k, i + 1, x, a, hn, h => by
  obtain ⟨h1, h2⟩ := nodup_head hn
  rw [putAll, putAll, putAll_upd v r (k + 1) i x _ h2 (by simpa using h), show upd V (k + (i + 1)) v k = V k from if_neg (by omega), show k + 1 + i = k + (i + 1) by omega]
theorem put_own (a : Act) (d : Tmp) : a.put (some d) (a.tmps.getD d undef) = a := by
 obtain ⟨ts, ds⟩ := a
 simp only [Act.put, Act.mk.injEq, and_true]
 apply Array.ext_getElem?
 intro i
 rw [Array.getElem?_setIfInBounds]
 by_cases e : d = i
 ·subst e
  by_cases h : d < ts.size
  ·simp [h]
  ·simp [h]
 ·simp [e]
def own0 (a : Act) (ds : List (Option Tmp)) : Nat → Value := fun j => match ds[j]? with | some (some d) => a.tmps.getD d undef | _ => undef
theorem putAll_own {a : Act} : ∀ (ds : List (Option Tmp)) (k : Nat) (V : Nat → Value), (∀ i d, ds[i]? = some (some d) → V (k + i) = a.tmps.getD d undef) → putAll a V ds k = a
 | [], _, _, _ => rfl
 | none :: r, k, V, h => by
  rw [putAll]
  exact putAll_own r (k + 1) V (fun i d hi => by rw [show k + 1 + i = k + (i + 1) by omega]; exact h (i + 1) d (by simpa using hi))
 | some d :: r, k, V, h => by
  rw [putAll, show V k = a.tmps.getD d undef from h 0 d (by simp), put_own]
  exact putAll_own r (k + 1) V (fun i d hi => by rw [show k + 1 + i = k + (i + 1) by omega]; exact h (i + 1) d (by simpa using hi))
def unl (l : Array Bool) : Nat → Nat
 | 0 => 0
 | n + 1 => unl l n + (if l.getD n true = true then 0 else 1)
theorem unl_le (l : Array Bool) : ∀ n, unl l n ≤ n
 | 0 => Nat.le_refl _
 | n + 1 => by have := unl_le l n; rw [unl]; split <;> omega
theorem unl_set_le (l : Array Bool) (i : Nat) : ∀ n, unl (l.setIfInBounds i true) n ≤ unl l n
 | 0 => Nat.le_refl _
 | n + 1 => by
  have := unl_set_le l i n
  rw [unl, unl]
  by_cases e : i = n
  ·subst e
   have : (l.setIfInBounds i true).getD i true = true := by
    by_cases h : i < l.size
    ·simp [h]
    ·simp [h]
   rw [if_pos this]; omega
  ·rw [getD_set_ne true e]; omega
theorem unl_set_lt (l : Array Bool) (i : Nat) (hi : l.getD i true = false) : ∀ n, i < n → unl (l.setIfInBounds i true) n < unl l n
 | 0, h => by omega
 | n + 1, h => by
  rw [unl, unl]
  by_cases e : i = n
  ·subst e
   have h1 : (l.setIfInBounds i true).getD i true = true := by
    by_cases h : i < l.size
    ·simp [h]
    ·simp [h]
   have h2 := unl_set_le l i i
   rw [if_pos h1, hi, if_neg (by decide)]; omega
  ·have := unl_set_lt l i hi n (by omega)
   rw [getD_set_ne true e]; omega
theorem unl_zero (l : Array Bool) : ∀ n, unl l n = 0 → ∀ j, j < n → l.getD j true = true
 | 0, _, _, h => by omega
 | n + 1, h, j, hj => by
  rw [unl] at h
  have h1 : l.getD n true = true := by
   by_cases e : l.getD n true = true
   ·exact e
   ·rw [if_neg e] at h; omega
  by_cases e : j = n
  ·subst e; exact h1
  ·exact unl_zero l n (by omega) j (by omega)
def backB (md : Region.Mode) : List Oper → Nat → Bool
 | [], _ => true
 | o :: r, i => (o.after.all fun e => !Region.binds md e || decide (e.on < i)) && backB md r (i + 1)
theorem back_spec (md : Region.Mode) : ∀ (l : List Oper) (k i : Nat) (o : Oper), backB md l k = true → l[i]? = some o → ∀ e ∈ o.after, Region.binds md e = true → e.on < k + i
 | [], _, _, _, _, h => by simp at h
 | x :: r, k, 0, o, hb, h => by
  obtain rfl : x = o := by simpa using h
  rw [backB, Bool.and_eq_true, Array.all_eq_true_iff_forall_mem] at hb
  intro e he hbind
  have := hb.1 e he
  rw [hbind] at this
  simpa using this
 | x :: r, k, i + 1, o, hb, h => by
  rw [backB, Bool.and_eq_true] at hb
  intro e he hbind
  have := back_spec md r (k + 1) i o hb.2 (by simpa using h) e he hbind
  omega
section
variable {P : Program} {Q : Exit → Act → World → Prop} {md : Region.Mode}
def factAt (fs : List Fact) (j : Nat) : Fact := fs.getD j Fact.any
def FactStep (P : Program) (md : Region.Mode) (ops : Array Oper) (Q : Exit → Act → World → Prop) (A : (Nat → Value) → Act) (w0 : World) (fs : List Fact) (i : Nat) (o : Oper) : Prop :=
 ∀ (V : Nat → Value) (w : World), Below w0.heap.size w0 w → Shut (∀ j, (o.after.any fun e => Region.binds md e && e.on == j) = true → (factAt fs j).p (V j) w) →
  ∀ K : Act → World → Prop, Shut (∀ a' v w', (A V).put o.dst v = a' → Below w.heap.size w w' → (factAt fs i).p v w' → K a' w') →
  if Region.wanted o (yielded ops (A V).tmps) = true then Oper.wp P o (A V) w K Q else K ((A V).put o.dst undef) w
def FactSteps (P : Program) (md : Region.Mode) (ops : Array Oper) (Q : Exit → Act → World → Prop) (A : (Nat → Value) → Act) (w0 : World) (fs : List Fact) : List Oper → Nat → Prop
 | [], _ => True
 | o :: r, i => FactStep P md ops Q A w0 fs i o ∧ FactSteps P md ops Q A w0 fs r (i + 1)
theorem FactSteps.at {ops : Array Oper} {A : (Nat → Value) → Act} {w0 : World} {fs : List Fact} : ∀ {r : List Oper} {k i : Nat} {o : Oper}, FactSteps P md ops Q A w0 fs r k → r[i]? = some o → FactStep P md ops Q A w0 fs (k + i) o
 | [], _, _, _, _, h => by simp at h
 | x :: r, k, 0, o, hs, h => by
  obtain rfl : x = o := by simpa using h
  exact hs.1
 | x :: r, k, i + 1, o, hs, h => by
  have := FactSteps.at (r := r) (k := k + 1) (i := i) hs.2 (by simpa using h)
  rwa [show k + 1 + i = k + (i + 1) by omega] at this
theorem facts_any {l : List Oper} {A : (Nat → Value) → Act} {w0 : World} {fs : List Fact} (hb : backB md l 0 = true)
  (hA : ∀ V i o v, l[i]? = some o → (A V).put o.dst v = A (upd V i v)) (hs : FactSteps P md l.toArray Q A w0 fs l 0)
  (hend : ∀ V w, Below w0.heap.size w0 w → (∀ j, j < l.length → (factAt fs j).p (V j) w) → Q .normal (A V) w) :
  ∀ (fuel : Nat) (listed : Array Bool) (V : Nat → Value) (w : World), listed.size = l.length → unl listed l.length ≤ fuel → Below w0.heap.size w0 w →
   (∀ j, listed.getD j false = true → (factAt fs j).p (V j) w) → wpAny P md l.toArray Q fuel listed (A V) w := by
 have full : ∀ (listed : Array Bool), Region.ready md l.toArray listed = [] → ∀ n j, j < n → j < l.length → listed.getD j true = true := by
  intro listed hr n
  induction n with
  | zero => intro j h; omega
  | succ n ih =>
   intro j hj hl
   by_cases e : listed.getD j true = true
   ·exact e
   ·exfalso
    have ho : l[j]? = some l[j] := List.getElem?_eq_getElem hl
    have : j ∈ Region.ready md l.toArray listed := by
     refine mem_ready.2 ⟨by simpa using e, l[j], by simp, fun e' he' hb' => ?_⟩
     have hlt := back_spec md l 0 j _ hb ho e' he' hb'
     have h1 := ih e'.on (by omega) (by omega)
     by_cases hs : e'.on < listed.size
     ·simp [hs] at h1 ⊢; exact h1
     ·exfalso
      apply e
      have : ¬ j < listed.size := by omega
      simp [this]
    rw [hr] at this
    cases this
 have done : ∀ (listed : Array Bool) (V : Nat → Value) (w : World), listed.size = l.length → (∀ j, j < l.length → listed.getD j true = true) → Below w0.heap.size w0 w →
   (∀ j, listed.getD j false = true → (factAt fs j).p (V j) w) → Q .normal (A V) w := fun listed V w hz hall hB hf => hend V w hB fun j hj => hf j (by
    have := hall j hj
    have h2 : j < listed.size := by omega
    simp [h2] at this ⊢; exact this)
 intro fuel
 induction fuel with
 | zero =>
  intro listed V w hz hu hB hf
  have hall := unl_zero listed l.length (by omega)
  refine ⟨?_, done listed V w hz hall hB hf⟩
  cases hr : Region.ready md l.toArray listed with
  | nil => rfl
  | cons x xs =>
   have hx : x ∈ Region.ready md l.toArray listed := by rw [hr]; exact List.mem_cons_self
   obtain ⟨h0, o, ho, _⟩ := mem_ready.1 hx
   have hlt : x < l.length := by simpa using (Array.getElem?_eq_some_iff.1 ho).1
   rw [hall x hlt] at h0; cases h0
 | succ fuel ih =>
  intro listed V w hz hu hB hf
  refine ⟨fun hr => done listed V w hz (fun j hj => full listed hr (j + 1) j (by omega) hj) hB hf, fun i hi => ?_⟩
  obtain ⟨h0, o, ho, hall⟩ := mem_ready.1 hi
  have ho' : l[i]? = some o := by simpa using ho
  have hlt : i < l.length := (List.getElem?_eq_some_iff.1 ho').1
  have hstep := FactSteps.at (k := 0) (i := i) hs ho'
  rw [Nat.zero_add] at hstep
  have h1 := hstep V w hB (fun j hj => hf j (by
   obtain ⟨e, he, hb2⟩ := Array.any_eq_true'.1 hj
   simp only [Bool.and_eq_true, beq_iff_eq] at hb2
   rw [← hb2.2]; exact hall e he hb2.1)) (wpAny P md l.toArray Q fuel (listed.setIfInBounds i true)) (fun a' v w' ha hb2 hfi => by
    rw [← ha, hA V i o v ho']
    refine ih _ _ _ (by simpa using hz) (by have := unl_set_lt listed i h0 l.length hlt; omega) (hB.trans (hb2.mono hB.size)) (fun j hj => ?_)
    by_cases e : j = i
    ·subst e
     rw [show upd V j v j = v from if_pos rfl]; exact hfi
    ·rw [show upd V i v j = V j from if_neg e]
     refine (factAt fs j).keep _ _ _ (hf j ?_) hb2
     rw [getD_set_ne false (Ne.symm e)] at hj
     exact hj)
  unfold wpOp
  simp only [ho]
  split
  ·rename_i hw
   rw [if_pos hw] at h1
   exact .inl h1
  ·rename_i hw
   rw [if_neg hw] at h1
   exact h1
theorem fact_free {ops : Array Oper} {A : (Nat → Value) → Act} {w0 : World} {fs : List Fact} {i : Nat} {o : Oper} (hg : o.guard = none)
  (h : ∀ (V : Nat → Value) (w : World), Below w0.heap.size w0 w → Shut (∀ j, (o.after.any fun e => Region.binds md e && e.on == j) = true → (factAt fs j).p (V j) w) →
   ∀ K : Act → World → Prop, Shut (∀ v w', Below w.heap.size w w' → (factAt fs i).p v w' → K ((A V).put o.dst v) w') → Oper.wp P o (A V) w K Q) : FactStep P md ops Q A w0 fs i o := by
 intro V w hB hF K hK
 rw [if_pos (show Region.wanted o (yielded ops (A V).tmps) = true by simp [Region.wanted, hg])]
 exact h V w hB hF K (fun v w' h1 h2 => hK _ v w' rfl h1 h2)
theorem wp_region_facts {id : Nat} {a : Act} {w : World} {l : List Oper} (A : (Nat → Value) → Act) (fs : List Fact) (hm : P.follows .mixedOrders = true) (hb : backB .any l 0 = true)
  (hn : nodupB (l.map (·.dst)) = true) (hA : ∀ V, putAll a V (l.map (·.dst)) 0 = A V) (hs : FactSteps P .any l.toArray Q A w fs l 0)
  (hend : ∀ V w', Below w.heap.size w w' → (∀ j, j < l.length → (factAt fs j).p (V j) w') → Q .normal (A V) w') : (Code.region id l.toArray true).wp P Q a w := by
 refine wp_region_any hm ?_
 have e0 : a = A (own0 a (l.map (·.dst))) := by
  rw [← hA, putAll_own]
  intro i d hi
  rw [Nat.zero_add, own0, hi]
 have h := facts_any (fs := fs) hb (fun V i o v ho => by
   rw [← hA, ← hA]
   have := putAll_upd (V := V) v (l.map (·.dst)) 0 i o.dst a hn (by rw [List.getElem?_map, ho]; rfl)
   rwa [Nat.zero_add] at this) hs hend l.toArray.size (Array.replicate l.toArray.size false) (own0 a (l.map (·.dst))) { w with drawn := w.drawn + 1 } (by simp) (by simpa using unl_le _ l.length) ⟨rfl, rfl, rfl, Nat.le_refl _, fun _ _ => rfl⟩
   (fun j hj => by
    exfalso
    have e : (Array.replicate l.toArray.size false).getD j false = false := by
     by_cases h : j < l.length
     ·simp [h]
     ·simp [h]
    rw [e] at hj; cases hj)
 rw [← e0] at h
 exact h
theorem put_is {K : Act → World → Prop} {a a' : Act} {w : World} (e : a = a') (h : K a w) : K a' w := e ▸ h
end
end Go.Proofs.YtiajjgehnmkokaaGreatDoor
end
section
namespace Go.Proofs.YtiajjgehnmkokaaGreatDoor.Seal
def T (s : Nat) : Nat := s / 2 ^^^ s % 2 * 2197175160
def Tn : Nat → Nat → Nat
 | 0, s => s
 | n + 1, s => Tn n (T s)
theorem T_xor (a b : Nat) : T (a ^^^ b) = T a ^^^ T b := by
 unfold T
 have h2 : (a ^^^ b) % 2 = (a % 2) ^^^ (b % 2) := by
  have := Nat.xor_mod_two_pow (a := a) (b := b) (n := 1)
  simpa using this
 have h1 : (a ^^^ b) / 2 = (a / 2) ^^^ (b / 2) := Nat.xor_div_two
 rw [h1, h2]
 rcases Nat.mod_two_eq_zero_or_one a with ha | ha <;> rcases Nat.mod_two_eq_zero_or_one b with hb | hb <;> rw [ha, hb] <;> simp
 ·rw [Nat.xor_assoc]
 ·rw [Nat.xor_assoc, Nat.xor_assoc, Nat.xor_comm 2197175160]
 ·rw [Nat.xor_assoc, ← Nat.xor_assoc 2197175160, Nat.xor_comm 2197175160, Nat.xor_assoc, Nat.xor_self, Nat.xor_zero]
theorem Tn_xor (n a b : Nat) : Tn n (a ^^^ b) = Tn n a ^^^ Tn n b := by
 induction n generalizing a b with
 | zero => rfl
 | succ n ih => simp only [Tn, T_xor, ih]
theorem Tn_add (m n s : Nat) : Tn (m + n) s = Tn n (Tn m s) := by
 induction m generalizing s with
 | zero => simp [Tn]
 | succ m ih => rw [Nat.succ_add]; simp only [Tn, ih]
theorem T_zero : T 0 = 0 := rfl
theorem Tn_zero (n : Nat) : Tn n 0 = 0 := by
 induction n with
 | zero => rfl
 | succ n ih => simp only [Tn, T_zero, ih]
theorem Tn_mul (k q : Nat) : Tn k (2 ^ k * q) = q := by
 induction k generalizing q with
 | zero => simp [Tn]
 | succ k ih =>
  have h : T (2 ^ (k + 1) * q) = 2 ^ k * q := by
   have e : 2 ^ (k + 1) * q = 2 * (2 ^ k * q) := by rw [Nat.pow_succ]; rw [Nat.mul_comm (2 ^ k) 2, Nat.mul_assoc]
   rw [e]; unfold T
   have a1 : 2 * (2 ^ k * q) / 2 = 2 ^ k * q := by omega
   have a2 : 2 * (2 ^ k * q) % 2 = 0 := by omega
   rw [a1, a2]; simp
  simp only [Tn, h, ih]
theorem T_lt (s : Nat) (h : s < 4294967296) : T s < 4294967296 := by
 unfold T
 refine Nat.xor_lt_two_pow (n := 32) (by omega) ?_
 have : s % 2 < 2 := Nat.mod_lt _ (by decide)
 omega
theorem xor_eq_zero {a b : Nat} (h : a ^^^ b = 0) : a = b := by
 have : a ^^^ b ^^^ b = 0 ^^^ b := by rw [h]
 simpa [Nat.xor_assoc] using this
theorem T_eq_zero (s : Nat) (h : s < 4294967296) (h0 : T s = 0) : s = 0 := by
 unfold T at h0
 have h1 := xor_eq_zero h0
 rcases Nat.mod_two_eq_zero_or_one s with hs | hs <;> rw [hs] at h1 <;> omega
theorem Tn_eq_zero (n s : Nat) (h : s < 4294967296) (h0 : Tn n s = 0) : s = 0 := by
 induction n generalizing s with
 | zero => exact h0
 | succ n ih => exact T_eq_zero s h (ih _ (T_lt _ h) h0)
theorem add_xor (k q r : Nat) (h : r < 2 ^ k) : 2 ^ k * q + r = r ^^^ 2 ^ k * q := by
 apply Nat.eq_of_testBit_eq
 intro j
 rw [Nat.testBit_two_pow_mul_add _ h, Nat.testBit_xor, Nat.testBit_two_pow_mul]
 by_cases hj : j < k
 ·have hj' : ¬ k ≤ j := by omega
  simp [hj, hj']
 ·have hj' : k ≤ j := by omega
  have : r.testBit j = false := Nat.testBit_lt_two_pow (Nat.lt_of_lt_of_le h (Nat.pow_le_pow_right (by decide) (by omega)))
  simp [hj, hj', this]
theorem split16 (s : Nat) : s = s % 16 ^^^ 2 ^ 4 * (s / 16) := by
 rw [← add_xor 4 (s / 16) (s % 16) (Nat.mod_lt _ (by decide))]; omega
theorem join256 (c r : Nat) (h : c < 256) : c + 256 * r = c ^^^ 2 ^ 8 * r := by
 rw [← add_xor 8 r c h]; omega
def tab : List Nat := [0, 274646895, 549293790, 820201905, 1098587580, 1361435347, 1640403810, 1905808397, 2197175160, 2460548119, 2722870694, 2987750089, 3280807620, 3553878443, 3811616794, 4084100981]
def half (s : Nat) : Nat := s / 16 ^^^ tab.getD (s % 16) 0
theorem tab_eq (i : Nat) (h : i < 16) : tab.getD i 0 = Tn 4 i := by
 have : ∀ i : Fin 16, tab.getD i 0 = Tn 4 i := by decide +kernel
 exact this ⟨i, h⟩
theorem half_eq (s : Nat) : half s = Tn 4 s := by
 conv => rhs; rw [split16 s]
 rw [Tn_xor, Tn_mul, ← tab_eq _ (Nat.mod_lt _ (by decide)), Nat.xor_comm]; rfl
def stepB (s c : Nat) : Nat := half (half (s ^^^ c))
theorem stepB_eq (s c : Nat) : stepB s c = Tn 8 (s ^^^ c) := by unfold stepB; rw [half_eq, half_eq, ← Tn_add]
def Oct (l : List Nat) : Prop := ∀ c ∈ l, c < 256
def run (s : Nat) (l : List Nat) : Nat := l.foldl stepB s
def crc0 (l : List Nat) : Nat := run 4294967295 l
def crc (l : List Nat) : Nat := 4294967295 ^^^ crc0 l
def num : List Nat → Nat
 | [] => 0
 | c :: r => c + 256 * num r
theorem run_eq (s : Nat) (l : List Nat) (h : Oct l) : run s l = Tn (8 * l.length) (s ^^^ num l) := by
 induction l generalizing s with
 | nil => simp [run, Tn, num]
 | cons c r ih =>
  have hc : c < 256 := h c (by simp)
  have hr : Oct r := fun x hx => h x (by simp [hx])
  show run (stepB s c) r = _
  rw [ih _ hr, stepB_eq, List.length_cons, Nat.mul_succ, Nat.add_comm, Tn_add]
  congr 1
  show _ = Tn 8 (s ^^^ (c + 256 * num r))
  rw [join256 c _ hc, ← Nat.xor_assoc, Tn_xor _ (s ^^^ c), Tn_mul]
def le : Nat → Nat → List Nat
 | _, 0 => []
 | x, n + 1 => x % 256 :: le (x / 256) n
theorem oct_take {l : List Nat} (n : Nat) (h : Oct l) : Oct (l.take n) := fun c hc => h c (List.mem_of_mem_take hc)
theorem oct_drop {l : List Nat} (n : Nat) (h : Oct l) : Oct (l.drop n) := fun c hc => h c (List.mem_of_mem_drop hc)
/-! ### Exclusive or of two lists of one length -/
def xorL : List Nat → List Nat → List Nat
 | a :: r, b :: q => (a ^^^ b) :: xorL r q
 | _, _ => []
theorem length_xorL (a b : List Nat) (h : a.length = b.length) : (xorL a b).length = a.length := by
 induction a generalizing b with
 | nil => cases b <;> rfl
 | cons x r ih => cases b with
  | nil => simp at h
  | cons y q => simp [xorL, ih q (by simpa using h)]
theorem oct_xorL (a b : List Nat) (ha : Oct a) (hb : Oct b) : Oct (xorL a b) := by
 induction a generalizing b with
 | nil => cases b <;> (intro c hc; simp [xorL] at hc)
 | cons x r ih => cases b with
  | nil => intro c hc; simp [xorL] at hc
  | cons y q =>
   intro c hc
   rcases List.mem_cons.1 hc with rfl | hc
   ·exact Nat.xor_lt_two_pow (n := 8) (ha x (by simp)) (hb y (by simp))
   ·exact ih q (fun z hz => ha z (by simp [hz])) (fun z hz => hb z (by simp [hz])) c hc
theorem mix256 (a b x y : Nat) (ha : a < 256) (hb : b < 256) : (a ^^^ b) + 256 * (x ^^^ y) = (a + 256 * x) ^^^ (b + 256 * y) := by
 have e : 2 ^ 8 * (x ^^^ y) = 2 ^ 8 * x ^^^ 2 ^ 8 * y := by
  apply Nat.eq_of_testBit_eq
  intro j
  rw [Nat.testBit_xor, Nat.testBit_two_pow_mul, Nat.testBit_two_pow_mul, Nat.testBit_two_pow_mul, Nat.testBit_xor]
  by_cases h : 8 ≤ j <;> simp [h]
 rw [join256 a x ha, join256 b y hb, join256 _ _ (Nat.xor_lt_two_pow (n := 8) ha hb), e]
 rw [Nat.xor_assoc, ← Nat.xor_assoc b, Nat.xor_comm b, Nat.xor_assoc (2 ^ 8 * x), ← Nat.xor_assoc a]
theorem num_xorL (a b : List Nat) (h : a.length = b.length) (ha : Oct a) (hb : Oct b) : num (xorL a b) = num a ^^^ num b := by
 induction a generalizing b with
 | nil => cases b with
  | nil => rfl
  | cons y q => simp at h
 | cons x r ih => cases b with
  | nil => simp at h
  | cons y q =>
   simp only [xorL, num]
   rw [ih q (by simpa using h) (fun z hz => ha z (by simp [hz])) (fun z hz => hb z (by simp [hz])), mix256 _ _ _ _ (ha x (by simp)) (hb y (by simp))]
theorem run_xorL (s t : Nat) (a b : List Nat) (h : a.length = b.length) (ha : Oct a) (hb : Oct b) : run (s ^^^ t) (xorL a b) = run s a ^^^ run t b := by
 rw [run_eq _ _ (oct_xorL a b ha hb), run_eq _ _ ha, run_eq _ _ hb, length_xorL a b h, num_xorL a b h ha hb, ← h, ← Tn_xor]
 congr 1
 rw [Nat.xor_assoc, ← Nat.xor_assoc t, Nat.xor_comm t, Nat.xor_assoc (num a), ← Nat.xor_assoc s]
/-! ### A burst -/
theorem told (p q : List Nat) (hl : p.length = q.length) (hp : Oct p) (hq : Oct q) (h4 : 4 ≤ p.length) (v at_ : Nat) (hv : v < 4294967296) (h0 : v ≠ 0) (hat : at_ + 32 ≤ 8 * p.length)
  (hx : num p ^^^ num q = 2 ^ at_ * v) (hs : num (p.drop (p.length - 4)) = crc (p.take (p.length - 4))) : num (q.drop (q.length - 4)) ≠ crc (q.take (q.length - 4)) := by
 intro hc
 have e : xorL p q = xorL (p.take (p.length - 4)) (q.take (p.length - 4)) ++ xorL (p.drop (p.length - 4)) (q.drop (p.length - 4)) := by
  generalize p.length - 4 = n
  clear hs hc hx hat h4 hp hq
  induction p generalizing q n with
  | nil => cases q with
   | nil => simp [xorL]
   | cons y r => simp at hl
  | cons x r ih => cases q with
   | nil => simp at hl
   | cons y s => cases n with
    | zero => simp [xorL]
    | succ n => simp [xorL]; exact ih s (by simpa using hl) n
 rw [← hl] at hc
 have hpt : Oct (p.take (p.length - 4)) := oct_take _ hp
 have hqt : Oct (q.take (p.length - 4)) := oct_take _ hq
 have hpd : Oct (p.drop (p.length - 4)) := oct_drop _ hp
 have hqd : Oct (q.drop (p.length - 4)) := oct_drop _ hq
 have r0 := run_eq 0 (xorL p q) (oct_xorL p q hp hq)
 rw [num_xorL p q hl hp hq, hx, Nat.zero_xor, length_xorL p q hl] at r0
 have r1 : run 0 (xorL p q) = 0 := by
  have ea : run 0 (xorL (p.take (p.length - 4)) (q.take (p.length - 4))) = crc0 (p.take (p.length - 4)) ^^^ crc0 (q.take (p.length - 4)) := by
   have := run_xorL 4294967295 4294967295 (p.take (p.length - 4)) (q.take (p.length - 4)) (by simp; omega) hpt hqt
   rw [Nat.xor_self] at this
   exact this
  have eb : crc0 (p.take (p.length - 4)) ^^^ crc0 (q.take (p.length - 4)) = num (p.drop (p.length - 4)) ^^^ num (q.drop (p.length - 4)) := by
   rw [hs, hc]; unfold crc
   generalize crc0 (p.take (p.length - 4)) = x
   generalize crc0 (q.take (p.length - 4)) = y
   generalize (4294967295 : Nat) = k
   apply Nat.eq_of_testBit_eq
   intro j
   simp only [Nat.testBit_xor]
   cases k.testBit j <;> cases x.testBit j <;> cases y.testBit j <;> rfl
  have ec : run 0 (xorL p q) = run (run 0 (xorL (p.take (p.length - 4)) (q.take (p.length - 4)))) (xorL (p.drop (p.length - 4)) (q.drop (p.length - 4))) := by
   rw [e]; unfold run; rw [List.foldl_append]
  rw [ec, ea, eb, run_eq _ _ (oct_xorL _ _ hpd hqd), num_xorL _ _ (by simp; omega) hpd hqd, Nat.xor_self, Tn_zero]
 rw [r1, show 8 * p.length = at_ + (8 * p.length - at_) by omega, Tn_add, Tn_mul] at r0
 exact h0 (Tn_eq_zero _ v hv r0.symm)
end Go.Proofs.YtiajjgehnmkokaaGreatDoor.Seal
end
section
namespace Go.Proofs
open Go.Shelf
def Tryz.lays169_ren : Go.Shelf.Ren := ⟨fun | 169 => 166 | n => n, fun | 70 => 167 | 9 => 9 | 0 => 0 | 72 => 169 | 37 => 22 | 127 => 178 | 3 => 3 | 5 => 5 | n => n, fun | n => n⟩
theorem Tryz.lays169 : Go.Proofs.Lays.n169 Tryz.prog Tryz.lays169_ren := {
 mixed := by kernel_rfl
 f169 := Tryz.func166.trans (congrArg some (by kernel_rfl))
 t0 := Tryz.underlying0
 a0 := Tryz.isAgg0
 z0 := Tryz.sizeOf0
 v0 := Tryz.zeroValue0
 t3 := Tryz.underlying3
 a3 := Tryz.isAgg3
 z3 := Tryz.sizeOf3
 v3 := Tryz.zeroValue3
 t9 := Tryz.underlying9
 a9 := Tryz.isAgg9
 z9 := Tryz.sizeOf9
 v9 := Tryz.zeroValue9
 t37 := Tryz.underlying22
 a37 := Tryz.isAgg22
 z37 := Tryz.sizeOf22
 v37 := Tryz.zeroValue22
 t70 := Tryz.underlying167
 a70 := Tryz.isAgg167
 z70 := Tryz.sizeOf167
 v70 := Tryz.zeroValue167
 t72 := Tryz.underlying169
 a72 := Tryz.isAgg169
 z72 := Tryz.sizeOf169
 v72 := Tryz.zeroValue169
 t127 := Tryz.underlying178
 a127 := Tryz.isAgg178
 z127 := Tryz.sizeOf178
 v127 := Tryz.zeroValue178 }
theorem Tryz.Builder_Extra_169 : Builder.Extra Tryz.prog Tryz.lays169_ren := {
 sizeBuilder := by kernel_rfl
 liesBuilder := by kernel_rfl
 t5 := Tryz.underlying5
 a5 := Tryz.isAgg5
 z5 := Tryz.sizeOf5
 v5 := Tryz.zeroValue5
 infoByte := by kernel_rfl
 cellsByte := by kernel_rfl
 sizeByte := by kernel_rfl
 neB5 := by decide }
open Go.RowKit in
open Go.RowKit in
open Go.RowKit in
theorem Tryz.Builder_String_any (B b : Nat) (l : List UInt8) (w : World) (h : Lib.IsBuilder 169 5 B b (Lib.byteCells l) w) (hBw : B ≤ w.heap.size) :
  Calls Tryz.prog 166 #[.pointer (some ⟨b, 0, none⟩)] w fun e w' => e = .returned (.string ⟨l.toArray⟩) ∧ Below B w w' := Any.Builder_String_any Tryz.lays169 Tryz.Builder_Extra_169 B b l w h hBw
open Go.RowKit in
def Tryz.lays165_ren : Go.Shelf.Ren := ⟨fun | 165 => 164 | 240 => 171 | 241 => 172 | 276 => 174 | 277 => 175 | n => n, fun | 70 => 167 | 3 => 3 | 0 => 0 | 4 => 4 | 9 => 9 | 20 => 20 | 72 => 169 | 37 => 22 | 164 => 179 | 5 => 5 | n => n, fun | n => n⟩
theorem Tryz.lays165 : Go.Proofs.Lays.n165 Tryz.prog Tryz.lays165_ren := {
 mixed := by kernel_rfl
 f165 := Tryz.func164.trans (congrArg some (by kernel_rfl))
 f240 := Tryz.func171.trans (congrArg some (by kernel_rfl))
 f241 := Tryz.func172.trans (congrArg some (by kernel_rfl))
 f276 := Tryz.func174.trans (congrArg some (by kernel_rfl))
 f277 := Tryz.func175.trans (congrArg some (by kernel_rfl))
 t0 := Tryz.underlying0
 a0 := Tryz.isAgg0
 z0 := Tryz.sizeOf0
 v0 := Tryz.zeroValue0
 t3 := Tryz.underlying3
 a3 := Tryz.isAgg3
 z3 := Tryz.sizeOf3
 v3 := Tryz.zeroValue3
 t4 := Tryz.underlying4
 a4 := Tryz.isAgg4
 z4 := Tryz.sizeOf4
 v4 := Tryz.zeroValue4
 t9 := Tryz.underlying9
 a9 := Tryz.isAgg9
 z9 := Tryz.sizeOf9
 v9 := Tryz.zeroValue9
 t20 := Tryz.underlying20
 a20 := Tryz.isAgg20
 z20 := Tryz.sizeOf20
 v20 := Tryz.zeroValue20
 t37 := Tryz.underlying22
 a37 := Tryz.isAgg22
 z37 := Tryz.sizeOf22
 v37 := Tryz.zeroValue22
 t70 := Tryz.underlying167
 a70 := Tryz.isAgg167
 z70 := Tryz.sizeOf167
 v70 := Tryz.zeroValue167
 t72 := Tryz.underlying169
 a72 := Tryz.isAgg169
 z72 := Tryz.sizeOf169
 v72 := Tryz.zeroValue169
 t164 := Tryz.underlying179
 a164 := Tryz.isAgg179
 z164 := Tryz.sizeOf179
 v164 := Tryz.zeroValue179 }
theorem Tryz.Builder_Extra_165 : Builder.Extra Tryz.prog Tryz.lays165_ren := {
 sizeBuilder := by kernel_rfl
 liesBuilder := by kernel_rfl
 t5 := Tryz.underlying5
 a5 := Tryz.isAgg5
 z5 := Tryz.sizeOf5
 v5 := Tryz.zeroValue5
 infoByte := by kernel_rfl
 cellsByte := by kernel_rfl
 sizeByte := by kernel_rfl
 neB5 := by decide }
open Go.RowKit in
theorem Tryz.Builder_Grow_fresh (B b n : Nat) (w : World) (hB : B ≤ b) (hbk : w.heap[b]? = some (.cells #[.pointer none, .slice none 0 0] 169 (0, 0))) (hBw : B ≤ w.heap.size) (hn : n ≤ 281474976710656) :
  Calls Tryz.prog 164 #[.pointer (some ⟨b, 0, none⟩), .int .i64 n] w fun e w' => e = .returned (.tuple #[]) ∧ (Lib.BuilderAt 169 5 B b (.pointer (some ⟨b, 0, none⟩)) [] w' ∧ Below B w w') := Any.Builder_Grow_fresh Tryz.lays165 Tryz.Builder_Extra_165 B b n w hB hbk hBw hn
open Go.RowKit in
def Tryz.lays106_ren : Go.Shelf.Ren := ⟨fun | 106 => 158 | 213 => 169 | 265 => 173 | n => n, fun | 9 => 9 | 3 => 3 | n => n, fun | n => n⟩
theorem Tryz.lays106 : Go.Proofs.Lays.n106 Tryz.prog Tryz.lays106_ren := {
 mixed := by kernel_rfl
 f106 := Tryz.func158.trans (congrArg some (by kernel_rfl))
 f213 := Tryz.func169.trans (congrArg some (by kernel_rfl))
 f265 := Tryz.func173.trans (congrArg some (by kernel_rfl))
 t3 := Tryz.underlying3
 a3 := Tryz.isAgg3
 z3 := Tryz.sizeOf3
 v3 := Tryz.zeroValue3
 t9 := Tryz.underlying9
 a9 := Tryz.isAgg9
 z9 := Tryz.sizeOf9
 v9 := Tryz.zeroValue9 }
open Go.RowKit in
theorem Tryz.strings_Compare (a b : ByteArray) (w : World) :
  Calls Tryz.prog 158 #[.string a, .string b] w fun e w' => e = .returned (.int .i64 (Lib.compareBytes a.data.toList b.data.toList)) ∧ w' = w := Any.strings_Compare Tryz.lays106 a b w
def Tryz.lays137_ren : Go.Shelf.Ren := ⟨fun | 137 => 84 | 217 => 109 | 266 => 140 | n => n, fun | 9 => 9 | 5 => 5 | 3 => 3 | n => n, fun | n => n⟩
theorem Tryz.lays137 : Go.Proofs.Lays.n137 Tryz.prog Tryz.lays137_ren := {
 mixed := by kernel_rfl
 f137 := Tryz.func84.trans (congrArg some (by kernel_rfl))
 f217 := Tryz.func109.trans (congrArg some (by kernel_rfl))
 f266 := Tryz.func140.trans (congrArg some (by kernel_rfl))
 t3 := Tryz.underlying3
 a3 := Tryz.isAgg3
 z3 := Tryz.sizeOf3
 v3 := Tryz.zeroValue3
 t5 := Tryz.underlying5
 a5 := Tryz.isAgg5
 z5 := Tryz.sizeOf5
 v5 := Tryz.zeroValue5
 t9 := Tryz.underlying9
 a9 := Tryz.isAgg9
 z9 := Tryz.sizeOf9
 v9 := Tryz.zeroValue9 }
open Go.RowKit in
theorem Tryz.strings_IndexByte (s : ByteArray) (c : Int) (w : World) :
  Calls Tryz.prog 84 #[.string s, .int .u8 c] w fun e w' => e = .returned (.int .i64 (Lib.indexByte s.data.toList c.toNat.toUInt8)) ∧ w' = w := Any.strings_IndexByte Tryz.lays137 s c w
open Go.RowKit Go.Lib in
open Go.RowKit Go.Lib in
open Go.RowKit Go.Lib in
open Go.RowKit Go.Lib in
open Go.RowKit Go.Lib in
open Go.RowKit Go.Lib in
open Go.RowKit Go.Lib in
def Tryz.lays145_ren : Go.Shelf.Ren := ⟨fun | 145 => 75 | 220 => 83 | 219 => 108 | 217 => 109 | 225 => 137 | 224 => 138 | 267 => 139 | 266 => 140 | 314 => 151 | n => n, fun | 9 => 9 | 4 => 4 | 59 => 113 | 3 => 3 | 5 => 5 | 46 => 128 | 146 => 156 | 51 => 155 | n => n, fun | 1 => 2 | n => n⟩
theorem Tryz.lays145 : Go.Proofs.Lays.n145 Tryz.prog Tryz.lays145_ren := {
 mixed := by kernel_rfl
 f145 := Tryz.func75.trans (congrArg some (by kernel_rfl))
 f217 := Tryz.func109.trans (congrArg some (by kernel_rfl))
 f219 := Tryz.func108.trans (congrArg some (by kernel_rfl))
 f220 := Tryz.func83.trans (congrArg some (by kernel_rfl))
 f224 := Tryz.func138.trans (congrArg some (by kernel_rfl))
 f225 := Tryz.func137.trans (congrArg some (by kernel_rfl))
 f266 := Tryz.func140.trans (congrArg some (by kernel_rfl))
 f267 := Tryz.func139.trans (congrArg some (by kernel_rfl))
 f314 := Tryz.func151.trans (congrArg some (by kernel_rfl))
 t3 := Tryz.underlying3
 a3 := Tryz.isAgg3
 z3 := Tryz.sizeOf3
 v3 := Tryz.zeroValue3
 t4 := Tryz.underlying4
 a4 := Tryz.isAgg4
 z4 := Tryz.sizeOf4
 v4 := Tryz.zeroValue4
 t5 := Tryz.underlying5
 a5 := Tryz.isAgg5
 z5 := Tryz.sizeOf5
 v5 := Tryz.zeroValue5
 t9 := Tryz.underlying9
 a9 := Tryz.isAgg9
 z9 := Tryz.sizeOf9
 v9 := Tryz.zeroValue9
 t46 := Tryz.underlying128
 a46 := Tryz.isAgg128
 z46 := Tryz.sizeOf128
 v46 := Tryz.zeroValue128
 t51 := Tryz.underlying155
 a51 := Tryz.isAgg155
 z51 := Tryz.sizeOf155
 v51 := Tryz.zeroValue155
 t59 := Tryz.underlying113
 a59 := Tryz.isAgg113
 z59 := Tryz.sizeOf113
 v59 := Tryz.zeroValue113
 t146 := Tryz.underlying156
 a146 := Tryz.isAgg156
 z146 := Tryz.sizeOf156
 v146 := Tryz.zeroValue156
 g1 := by kernel_rfl }
open Go.RowKit Go.Lib in
theorem Tryz.strings_Cut (s sep : ByteArray) (m : Int) (w : World) (hs : s.size < 4294967281) (hm : w.cell? ⟨2, 0, none⟩ = some (.int .i64 m)) :
  Calls Tryz.prog 75 #[.string s, .string sep] w fun e w' => e = .returned (.tuple #[.string ⟨(Lib.cut s.data.toList sep.data.toList).1.toArray⟩, .string ⟨(Lib.cut s.data.toList sep.data.toList).2.1.toArray⟩, .bool (Lib.cut s.data.toList sep.data.toList).2.2]) ∧ ∃ n, w' = w.drewN n := Any.strings_Cut Tryz.lays145 s sep m w hs hm
open Go.RowKit Go.Lib in
open Go.RowKit Go.Lib in
def Tryz.laysM145_ren : Go.Shelf.Ren := ⟨fun | 145 => 75 | 220 => 83 | 219 => 108 | 217 => 109 | 225 => 137 | 224 => 138 | 267 => 139 | 266 => 140 | 314 => 151 | n => n, fun | 9 => 9 | 4 => 4 | 59 => 113 | 3 => 3 | 5 => 5 | 46 => 128 | 146 => 156 | 51 => 155 | n => n, fun | 1 => 2 | n => n⟩
theorem Tryz.laysM145 : Go.Proofs.LaysM.n145 Tryz.prog Tryz.laysM145_ren := {
 mixed := by kernel_rfl
 f145 := Tryz.func75.trans (congrArg some (by kernel_rfl))
 f217 := Tryz.func109.trans (congrArg some (by kernel_rfl))
 f219 := Tryz.func108.trans (congrArg some (by kernel_rfl))
 f220 := Tryz.func83.trans (congrArg some (by kernel_rfl))
 f224 := Tryz.func138.trans (congrArg some (by kernel_rfl))
 f225 := Tryz.func137.trans (congrArg some (by kernel_rfl))
 f266 := Tryz.func140.trans (congrArg some (by kernel_rfl))
 f267 := Tryz.func139.trans (congrArg some (by kernel_rfl))
 f314 := Tryz.func151.trans (congrArg some (by kernel_rfl))
 t3 := Tryz.underlying3
 a3 := Tryz.isAgg3
 z3 := Tryz.sizeOf3
 v3 := Tryz.zeroValue3
 t4 := Tryz.underlying4
 a4 := Tryz.isAgg4
 z4 := Tryz.sizeOf4
 v4 := Tryz.zeroValue4
 t5 := Tryz.underlying5
 a5 := Tryz.isAgg5
 z5 := Tryz.sizeOf5
 v5 := Tryz.zeroValue5
 t9 := Tryz.underlying9
 a9 := Tryz.isAgg9
 z9 := Tryz.sizeOf9
 v9 := Tryz.zeroValue9
 t46 := Tryz.underlying128
 a46 := Tryz.isAgg128
 z46 := Tryz.sizeOf128
 v46 := Tryz.zeroValue128
 t51 := Tryz.underlying155
 a51 := Tryz.isAgg155
 z51 := Tryz.sizeOf155
 v51 := Tryz.zeroValue155
 t59 := Tryz.underlying113
 a59 := Tryz.isAgg113
 z59 := Tryz.sizeOf113
 v59 := Tryz.zeroValue113
 t146 := Tryz.underlying156
 a146 := Tryz.isAgg156
 z146 := Tryz.sizeOf156
 v146 := Tryz.zeroValue156
 g1 := by kernel_rfl
 i3 := by kernel_rfl
 i4 := by kernel_rfl
 i5 := by kernel_rfl
 i9 := by kernel_rfl
 i46 := by kernel_rfl
 i51 := by kernel_rfl
 i59 := by kernel_rfl
 i146 := by kernel_rfl
 m1 := by kernel_rfl
 s1_3 := fun w h => Go.Proofs.cell_of_shapedOpen_int (zero := #[.int .i64 0]) (t := 3) h (of_decide_eq_true (by kernel_rfl)) (by kernel_rfl) rfl (by kernel_rfl) (by kernel_rfl) Tryz.underlying3 }
open Go.RowKit Go.Lib in
def Tryz.laysNm216_ren : Go.Shelf.Ren := ⟨fun | 16 => 37 | n => n, fun | 24 => 42 | 9 => 9 | 4 => 4 | n => n, fun | n => n⟩
theorem Tryz.laysNm216 : Go.Proofs.Lays2.n16 Tryz.prog Tryz.laysNm216_ren := {
 mixed := by kernel_rfl
 f16 := Tryz.func37.trans (congrArg some (by kernel_rfl))
 t4 := Tryz.underlying4
 a4 := Tryz.isAgg4
 z4 := Tryz.sizeOf4
 v4 := Tryz.zeroValue4
 t9 := Tryz.underlying9
 a9 := Tryz.isAgg9
 z9 := Tryz.sizeOf9
 v9 := Tryz.zeroValue9
 t24 := Tryz.underlying42
 a24 := Tryz.isAgg42
 z24 := Tryz.sizeOf42
 v24 := Tryz.zeroValue42
 i9 := by kernel_rfl }
open Go.RowKit Go.Lib in
theorem Tryz.slices_Clone_string (b off n c : Nat) (zs : List ByteArray) (w : World) (hz : n ≤ zs.length) (hbig : n * 16 ≤ 140737488355328) (hc : ∀ j, j < zs.length → w.cell? ⟨b, off + j, none⟩ = some (.string (zs.getD j ByteArray.empty))) :
  Calls Tryz.prog 37 #[.slice (some ⟨b, off, none⟩) n c] w fun e w' => ∃ v', e = .returned v' ∧ w'.ownsRow w.heap.size 9 1 v' n ((zs.take n).map (Value.string)) ∧ v' ≠ .slice none 0 0 ∧ Below w.heap.size w w' := Any.slices_Clone_string Tryz.laysNm216 b off n c zs w hz hbig hc
open Go.RowKit Go.Lib in
theorem Tryz.slices_Clone_string_nil (n c : Nat) (w : World) :
  Calls Tryz.prog 37 #[.slice none n c] w fun e w' => e = .returned (.slice none 0 0) ∧ w' = w := Any.slices_Clone_string_nil Tryz.laysNm216 n c w
open Go.RowKit Go.Lib in
def Tryz.laysSlK4_ren : Go.Shelf.Ren := ⟨fun | 4 => 42 | n => n, fun | 22 => 22 | 4 => 4 | 5 => 5 | n => n, fun | n => n⟩
theorem Tryz.laysSlK4 : Go.Proofs.SlLaysK.n4 Tryz.prog Tryz.laysSlK4_ren := {
 mixed := by kernel_rfl
 f4 := Tryz.func42.trans (congrArg some (by kernel_rfl))
 t4 := Tryz.underlying4
 a4 := Tryz.isAgg4
 z4 := Tryz.sizeOf4
 v4 := Tryz.zeroValue4
 t22 := Tryz.underlying22
 a22 := Tryz.isAgg22
 z22 := Tryz.sizeOf22
 v22 := Tryz.zeroValue22
 t5 := Tryz.underlying5
 i5 := by kernel_rfl }
open Go.RowKit Go.Lib in
theorem Tryz.bytes_Clone_at (a : Addr) (n c : Nat) (xs : List Int) (w : World) (hx : xs.length = n) (hbig : n ≤ 140737488355328) (hc : ∀ i, i < n → w.cell? (a.add i) = some (.int .u8 (xs.getD i 0))) :
  Calls Tryz.prog 42 #[.slice (some a) n c] w fun e w' => ∃ v', e = .returned v' ∧ w'.ownsRow w.heap.size 5 1 v' n (xs.map (Value.int .u8)) ∧ v' ≠ .slice none 0 0 ∧ Below w.heap.size w w' := Any.bytes_Clone_at Tryz.laysSlK4 a n c xs w hx hbig hc
open Go.RowKit Go.Lib in
theorem Tryz.bytes_Clone_nil (n c : Nat) (w : World) :
  Calls Tryz.prog 42 #[.slice none n c] w fun e w' => e = .returned (.slice none 0 0) ∧ w' = w := Any.bytes_Clone_nil Tryz.laysSlK4 n c w
def Tryz.lays196_ren : Go.Shelf.Ren := ⟨fun | 196 => 85 | 259 => 110 | n => n, fun | 9 => 9 | 4 => 4 | 3 => 3 | 5 => 5 | 12 => 12 | 119 => 132 | 0 => 0 | 46 => 128 | 139 => 135 | 138 => 134 | 53 => 127 | n => n, fun | 3 => 0 | 4 => 1 | n => n⟩
theorem Tryz.lays196 : Go.Proofs.Lays.n196 Tryz.prog Tryz.lays196_ren := {
 mixed := by kernel_rfl
 f196 := Tryz.func85.trans (congrArg some (by kernel_rfl))
 f259 := Tryz.func110.trans (congrArg some (by kernel_rfl))
 t0 := Tryz.underlying0
 a0 := Tryz.isAgg0
 z0 := Tryz.sizeOf0
 v0 := Tryz.zeroValue0
 t3 := Tryz.underlying3
 a3 := Tryz.isAgg3
 z3 := Tryz.sizeOf3
 v3 := Tryz.zeroValue3
 t4 := Tryz.underlying4
 a4 := Tryz.isAgg4
 z4 := Tryz.sizeOf4
 v4 := Tryz.zeroValue4
 t5 := Tryz.underlying5
 a5 := Tryz.isAgg5
 z5 := Tryz.sizeOf5
 v5 := Tryz.zeroValue5
 t9 := Tryz.underlying9
 a9 := Tryz.isAgg9
 z9 := Tryz.sizeOf9
 v9 := Tryz.zeroValue9
 t12 := Tryz.underlying12
 a12 := Tryz.isAgg12
 z12 := Tryz.sizeOf12
 v12 := Tryz.zeroValue12
 t46 := Tryz.underlying128
 a46 := Tryz.isAgg128
 z46 := Tryz.sizeOf128
 v46 := Tryz.zeroValue128
 t53 := Tryz.underlying127
 a53 := Tryz.isAgg127
 z53 := Tryz.sizeOf127
 v53 := Tryz.zeroValue127
 t119 := Tryz.underlying132
 a119 := Tryz.isAgg132
 z119 := Tryz.sizeOf132
 t138 := Tryz.underlying134
 a138 := Tryz.isAgg134
 z138 := Tryz.sizeOf134
 v138 := Tryz.zeroValue134
 t139 := Tryz.underlying135
 a139 := Tryz.isAgg135
 z139 := Tryz.sizeOf135
 v139 := Tryz.zeroValue135
 g3 := by kernel_rfl
 g4 := by kernel_rfl }
open Go.RowKit in
theorem Tryz.utf8_ValidString (s : ByteArray) (w : World) (hs : s.size ≤ 9223372036854775807) (hT : Lib.Utf8Tabs 0 1 w) :
  Calls Tryz.prog 85 #[.string s] w fun e w' => e = .returned (.bool (Lib.validD s.data.toList)) ∧ Below w.heap.size w w' := Any.utf8_ValidString Tryz.lays196 s w hs hT
end Go.Proofs
end
