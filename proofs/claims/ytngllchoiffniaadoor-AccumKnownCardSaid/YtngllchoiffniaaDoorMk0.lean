/- Append, BsonMath, Ins, IntPost, Law, NumMath, OrdLex, Puts, RegFacts, Rm, SealMath. -/
import Derived.Test.YtngllchoiffniaaDoorRows
import Derived.Laws.AppendOwn
import Derived.Laws.OwnMore
import Derived.OwnWalk
import Derived.WalkKit
import Derived.Lib.ValidU
import Derived.Lib.ItoaNum
import Derived.Shelf.Spec.SlicesInsert
import Derived.Shelf.Spec.SlicesInsertGrow
import Derived.Ground.Names2Prog
import Derived.Test.YtngllchoiffniaaDoorProg
import Derived.ProofKit
import Derived.OpenShut
import Derived.Deep.DeepHandedRow
import Derived.Carry
import Derived.RowKit
import Derived.IntWalk
import Derived.Laws.Entries
import Derived.Lib.Bytealg
import Derived.Laws.Rows
import Derived.Deep.MidRow
import Derived.Below
import Derived.Deep.RegionHeld
set_option maxRecDepth 100000
set_option maxHeartbeats 20000000
section
namespace Go.Proofs.YtngllchoiffniaaDoor
open Go.RowKit
section
variable {P : Program} (w : World)
def Lies (w w' : World) (v v' : Value) : Prop := (v'.ownBlock = v.ownBlock ∧ w.grownBy w' v.ownBlock) ∨ (v'.ownBlock = some w.heap.size ∧ w.grownBy w' none)
end
end Go.Proofs.YtngllchoiffniaaDoor
end
section
namespace Bson
open Go
inductive Val where
 | mk (kind n : Int) (s : ByteArray) (b : List Nat) (f : List (ByteArray × Val)) (l : List Val)
def Val.kind : Val → Int | .mk k _ _ _ _ _ => k
def Val.n : Val → Int | .mk _ n _ _ _ _ => n
def Val.s : Val → ByteArray | .mk _ _ s _ _ _ => s
def Val.b : Val → List Nat | .mk _ _ _ b _ _ => b
def Val.f : Val → List (ByteArray × Val) | .mk _ _ _ _ f _ => f
def Val.l : Val → List Val | .mk _ _ _ _ _ l => l
def none_ : ByteArray := ⟨#[]⟩
def zero : Val := .mk 0 0 none_ [] [] []
def le : Nat → Nat → List Nat
 | _, 0 => []
 | x, n + 1 => x % 256 :: le (x / 256) n
theorem le_length (x n : Nat) : (le x n).length = n := by
 induction n generalizing x with
 | zero => rfl
 | succ n ih => simp [le, ih]
def leN : List Nat → Nat
 | [] => 0
 | c :: r => c + 256 * leN r
def signed (l : List Nat) : Int := if leN l < 256 ^ l.length / 2 then (leN l : Int) else (leN l : Int) - (256 ^ l.length : Nat)
def leI (x : Int) (n : Nat) : List Nat := le (x % (256 ^ n : Nat)).toNat n
theorem leI_length (x : Int) (n : Nat) : (leI x n).length = n := le_length _ _
def bytes (s : ByteArray) : List Nat := s.data.toList.map UInt8.toNat
def ofBytes (l : List Nat) : ByteArray := ⟨(l.map UInt8.ofNat).toArray⟩
theorem bytes_length (s : ByteArray) : (bytes s).length = s.size := by simp [bytes]
theorem bytes_lt (s : ByteArray) : ∀ c ∈ bytes s, c < 256 := by
 intro c hc
 obtain ⟨x, _, rfl⟩ := List.mem_map.1 hc
 exact x.toNat_lt
def u8 (s : ByteArray) : Bool := Lib.validD s.data.toList
def digits (n : Nat) : ByteArray := ⟨(Lib.decDigits n).toArray⟩
def code (k : Int) : Nat :=
 if k = 1 then 0xff else if k = 2 then 0x0a else if k = 3 then 0x10 else if k = 4 then 0x12 else if k = 5 then 0x02 else if k = 6 then 0x03 else if k = 7 then 0x04
 else if k = 8 then 0x05 else if k = 9 then 0x07 else if k = 10 then 0x08 else if k = 11 then 0x09 else if k = 12 then 0x7f else 0
def bare (v : Val) (n s b f l : Bool) : Bool := (n || v.n == 0) && (s || v.s.size == 0) && (b || v.b.isEmpty) && (f || v.f.isEmpty) && (l || v.l.isEmpty)
def nameMay (s : ByteArray) : Bool := decide (0 ∉ bytes s) && decide (s.size ≤ 120) && u8 s
def wrap (l : List Nat) : List Nat := leI ((l.length : Int) + 5) 4 ++ (l ++ [0])
def scalarP (k n : Int) (s : ByteArray) (b : List Nat) (v : Val) : Option (List Nat) :=
 if k = 1 ∨ k = 2 ∨ k = 12 then (if bare v false false false false false then some [] else none)
 else if k = 3 then (if bare v true false false false false && decide (-2147483648 ≤ n) && decide (n < 2147483648) then some (leI n 4) else none)
 else if k = 4 ∨ k = 11 then (if bare v true false false false false && decide (-9223372036854775808 ≤ n) && decide (n < 9223372036854775808) then some (leI n 8) else none)
 else if k = 10 then (if bare v true false false false false && (n == 0 || n == 1) then some (leI n 1) else none)
 else if k = 5 then (if bare v false true false false false && u8 s then some (leI (s.size + 1) 4 ++ (bytes s ++ [0])) else none)
 else if k = 8 then (if bare v false false true false false then some (leI b.length 4 ++ (0 :: b)) else none)
 else if k = 9 then (if bare v false false true false false && b.length == 12 then some b else none)
 else none
def scalar (v : Val) : Option (List Nat) := scalarP v.kind v.n v.s v.b v
def row (e : Val → Option (List Nat)) : List (ByteArray × Val) → Option (List Nat)
 | [] => some []
 | (s, v) :: r => match nameMay s, e v, row e r with
  | true, some x, some y => some (code v.kind :: (bytes s ++ (0 :: (x ++ y))))
  | _, _, _ => none
def named (l : List Val) : List (ByteArray × Val) := (List.range l.length).zipWith (fun i v => (digits i, v)) l
def enc : Nat → Val → Option (List Nat)
 | 0, v => scalar v
 | d + 1, v =>
  if v.kind = 6 then (if bare v false false false true false && decide (v.f.map (·.1)).Nodup then (row (enc d) v.f).map wrap else none)
  else if v.kind = 7 then (if bare v false false false false true then (row (enc d) (named v.l)).map wrap else none)
  else scalar v
theorem enc_doc (d : Nat) (v : Val) (hk : v.kind = 6) : enc (d + 1) v = (if bare v false false false true false && decide (v.f.map (·.1)).Nodup then (row (enc d) v.f).map wrap else none) := by rw [enc, if_pos hk]
theorem enc_list (d : Nat) (v : Val) (hk : v.kind = 7) : enc (d + 1) v = (if bare v false false false false true then (row (enc d) (named v.l)).map wrap else none) := by rw [enc, if_neg (by omega), if_pos hk]
theorem enc_other (d : Nat) (v : Val) (h6 : v.kind ≠ 6) (h7 : v.kind ≠ 7) : enc d v = scalar v := by
 cases d with
 | zero => rfl
 | succ d => rw [enc, if_neg h6, if_neg h7]
inductive Res (α : Type) where
 | err (e : Nat)
 | ok (x : α) (rest : List Nat)
def Res.bind {α β : Type} : Res α → (α → List Nat → Res β) → Res β
 | .err e, _ => .err e
 | .ok x r, f => f x r
def take (n : Nat) (l : List Nat) : Res (List Nat) := if l.length < n then .err 2 else .ok (l.take n) (l.drop n)
def name (l : List Nat) : Res ByteArray :=
 if l.findIdx (· == 0) = l.length then .err 2
 else if u8 (ofBytes (l.take (l.findIdx (· == 0)))) = false then .err 5
 else if 120 < l.findIdx (· == 0) then .err 15
 else .ok (ofBytes (l.take (l.findIdx (· == 0)))) (l.drop (l.findIdx (· == 0) + 1))
def text (l : List Nat) : Res Val := (take 4 l).bind fun h r => if signed h < 1 then .err 4 else (take (signed h).toNat r).bind fun t r' =>
 if t.getD (t.length - 1) 0 ≠ 0 then .err 4 else if u8 (ofBytes (t.take (t.length - 1))) = false then .err 5 else .ok (.mk 5 0 (ofBytes (t.take (t.length - 1))) [] [] []) r'
def blob (l : List Nat) : Res Val := (take 5 l).bind fun h r => if signed (h.take 4) < 0 ∨ h.getD 4 0 ≠ 0 then .err 4 else (take (signed (h.take 4)).toNat r).bind fun t r' => .ok (.mk 8 0 none_ t [] []) r'
def number (k : Int) (n : Nat) (l : List Nat) : Res Val := (take n l).bind fun h r => .ok (.mk k (signed h) none_ [] [] []) r
def bool (l : List Nat) : Res Val := (take 1 l).bind fun h r => if signed h ≠ 0 ∧ signed h ≠ 1 then .err 4 else .ok (.mk 10 (signed h) none_ [] [] []) r
def known (c : Nat) : Bool := c == 0x01 || c == 0x02 || c == 0x03 || c == 0x04 || c == 0x05 || c == 0x07 || c == 0x08 || c == 0x09 || c == 0x0a || c == 0x10 || c == 0x12 || c == 0x13 || c == 0x7f || c == 0xff
def loop (val : Nat → List Nat → Res Val) (list : Bool) : Nat → List (ByteArray × Val) → List Nat → Res (List (ByteArray × Val))
 | 0, _, _ => .err 2
 | _ + 1, _, [] => .err 2
 | g + 1, acc, c :: r =>
  if c = 0 then .ok acc r
  else if known c = false then .err 9
  else (name r).bind fun s r2 =>
   if list = true ∧ s ≠ digits acc.length then .err 4
   else if acc.any (fun p => decide (p.1 = s)) = true then .err 6
   else (val c r2).bind fun v r3 => loop val list g (acc ++ [(s, v)]) r3
end Bson
end
section
namespace Go.Proofs
open Go.Shelf
def Tryd.laysIns_ren : Go.Shelf.Ren := ⟨fun | 21 => 35 | 27 => 45 | 28 => 46 | 35 => 61 | 39 => 72 | n => n, fun | 22 => 39 | 3 => 3 | 4 => 4 | 0 => 0 | n => n, fun | n => n⟩
theorem Tryd.laysIns : Go.Proofs.Lays2.n21 Tryd.prog Tryd.laysIns_ren := {
 mixed := by kernel_rfl
 f21 := Tryd.func35.trans (congrArg some (by kernel_rfl))
 f27 := Tryd.func45.trans (congrArg some (by kernel_rfl))
 f28 := Tryd.func46.trans (congrArg some (by kernel_rfl))
 f35 := Tryd.func61.trans (congrArg some (by kernel_rfl))
 f39 := Tryd.func72.trans (congrArg some (by kernel_rfl))
 t0 := Tryd.underlying0
 a0 := Tryd.isAgg0
 z0 := Tryd.sizeOf0
 v0 := Tryd.zeroValue0
 t3 := Tryd.underlying3
 a3 := Tryd.isAgg3
 z3 := Tryd.sizeOf3
 v3 := Tryd.zeroValue3
 t4 := Tryd.underlying4
 a4 := Tryd.isAgg4
 z4 := Tryd.sizeOf4
 v4 := Tryd.zeroValue4
 t22 := Tryd.underlying39
 a22 := Tryd.isAgg39
 z22 := Tryd.sizeOf39
 v22 := Tryd.zeroValue39
 i3 := by kernel_rfl }
end Go.Proofs
end
section
namespace Go.Proofs.YtngllchoiffniaaDoor
open Go.RowKit
def IntPost (n : Int) (w : World) (e : Ending) (w' : World) : Prop := e = .returned (.int .i64 n) ∧ w = w'
theorem ret_i {a b : Int} (h : a = b) : Ending.returned (.int .i64 a) = .returned (.int .i64 b) := by rw [h]
end Go.Proofs.YtngllchoiffniaaDoor
end
section
namespace Go.Proofs.YtngllchoiffniaaDoor
open Go.ChangeShapes Go.WideShapes Go.ChangeAt Go.RowKit
section
variable {H : Type} {enc : TypeId × Value → H} {P : Program}
theorem args_stay (hl : laidOutB P = true) {W W' : World} (hb : Below W.heap.size W W') : ∀ (ts : List TypeId) (vs : List Value) (ds : List (DataW H)) (ps : List MemPlace),
  (ts.all fun t => P.readableRec t && decide (t < P.types.size)) = true → DataW.TrodAll enc P W 0 (fun _ => true) true ts vs ds ps → (∀ x ∈ ps, x.block < W.heap.size) →
  DataW.TrodAll enc P W' 0 (fun b => decide (b < W.heap.size)) true ts vs ds ps
 | [], [], [], _, _, h, _ => h
 | t :: ts, v :: vs, d :: ds, ps, ht, ⟨p, q, h1, h2, e⟩, hlt => by
  simp only [List.all_cons, Bool.and_eq_true, decide_eq_true_eq] at ht
  refine ⟨p, q, Below.trod hl ht.1.1 ht.1.2 h1 hb (fun x hx => hlt x (by rw [e]; simp [hx])), args_stay hl hb ts vs ds q ht.2 h2 (fun x hx => hlt x (by rw [e]; simp [hx])), e⟩
 | [], [], _ :: _, _, _, h, _ => h.elim
 | [], _ :: _, [], _, _, h, _ => h.elim
 | [], _ :: _, _ :: _, _, _, h, _ => h.elim
 | _ :: _, [], [], _, _, h, _ => h.elim
 | _ :: _, [], _ :: _, _, _, h, _ => h.elim
 | _ :: _, _ :: _, [], _, _, h, _ => h.elim
theorem law_end {f : Func} {s : ChangeSpec} {W W' : World} {args : Array Value} {ds gs : List (DataW H)} {before : List MemPlace} (tb : TypeId) (hl : laidOutB P = true) (hbool : P.underlying tb = some .bool)
  (hts : (f.params.toList.all fun t => P.readableRec t && decide (t < P.types.size)) = true) (hres : f.resultTypes = #[tb]) (hv : s.vars = [])
  (hW : DataW.Whole enc P f.params.toList s.vars false W args.toList ds gs before) (hspec : s.fn H (ds ++ gs) = { results := [.lit (.bool true)], args := ds }) (hb : Below W.heap.size W W') :
  s.post enc P f false true false false W args (.bool true) W' := by
 have hW' := hW
 obtain ⟨p, q, hA, hV, rfl, _, _⟩ := hW
 have hlt : ∀ x ∈ p, x.block < W.heap.size := fun x hx => hW'.lt x (by simp [hx])
 refine ⟨ds, gs, p ++ q, [], p, [], hW', ?_, ?_, ?_, hb.frame _, fun h => by cases h⟩
 ·rw [hspec, hres]
  exact trodAll_cons_mk (shut_bool hbool true) trodAll_mk0
 ·rw [hspec]
  exact args_stay hl hb _ _ _ _ hts hA hlt
 ·rw [hspec, hv]; rfl
end
theorem own : ownKnob Tryd.prog.godebug = none := by kernel_rfl
theorem laidOut : laidOutB Tryd.prog = true := by kernel_rfl
end Go.Proofs.YtngllchoiffniaaDoor
end
section
namespace Go.Proofs.YtngllchoiffniaaDoor
open Go.RowKit
namespace Num
def In (n : Int) : Prop := -9223372036854775808 ≤ n ∧ n ≤ 9223372036854775807
instance (n : Int) : Decidable (In n) := by unfold In; exact inferInstance
theorem wrap_in (n : Int) : In (wrap64 n) := by unfold In wrap64; omega
theorem wrap_toNat (X : BitVec 64) : IntKind.i64.wrap (X.toNat : Int) = X.toInt := by
 rw [IntWalk.i64_left, BitVec.toInt_eq_toNat_cond]
 have := X.isLt
 unfold wrap64
 split <;> omega
theorem bits_xor (a b : Int) : bits .xor .i64 a b = (BitVec.ofInt 64 a ^^^ BitVec.ofInt 64 b).toInt := wrap_toNat _
theorem bits_and (a b : Int) : bits .and .i64 a b = (BitVec.ofInt 64 a &&& BitVec.ofInt 64 b).toInt := wrap_toNat _
theorem msb_of {a : Int} (h : In a) : (BitVec.ofInt 64 a).msb = decide (a < 0) := by
 rw [BitVec.msb_eq_toInt, BitVec.toInt_ofInt]
 unfold In at h
 have : a.bmod (2 ^ 64) = a := by
  apply Int.bmod_eq_of_le <;> omega
 rw [this]
theorem sign_two {a b n : Int} (ha : In a) (hb : In b) (hn : In n) : (bits .and .i64 (bits .xor .i64 a n) (bits .xor .i64 b n) < 0) ↔ ((a < 0 ∧ 0 ≤ n ∧ b < 0) ∨ (0 ≤ a ∧ n < 0 ∧ 0 ≤ b)) := by
 have e : (bits .and .i64 (bits .xor .i64 a n) (bits .xor .i64 b n) < 0) ↔ (BitVec.ofInt 64 (bits .xor .i64 a n) &&& BitVec.ofInt 64 (bits .xor .i64 b n)).msb = true := by
  rw [bits_and, BitVec.msb_eq_toInt, decide_eq_true_eq]
 rw [e, bits_xor, bits_xor, BitVec.ofInt_toInt, BitVec.ofInt_toInt, BitVec.msb_and, BitVec.msb_xor, BitVec.msb_xor, msb_of ha, msb_of hb, msb_of hn]
 by_cases h1 : a < 0 <;> by_cases h2 : b < 0 <;> by_cases h3 : n < 0 <;> simp [h1, h2, h3] <;> omega
theorem sum_sign {a b : Int} (ha : In a) (hb : In b) : 0 ≤ bits .and .i64 (bits .xor .i64 a (wrap64 (a + b))) (bits .xor .i64 b (wrap64 (a + b))) ↔ In (a + b) := by
 have h := sign_two ha hb (wrap_in (a + b))
 rw [← Int.not_lt, h]
 unfold In at *
 unfold wrap64
 omega
end Num
end Go.Proofs.YtngllchoiffniaaDoor
end
section
namespace Order
open Go
def sgn (a b : Int) : Int := if a < b then -1 else if b < a then 1 else 0
theorem sgn_lt {a b : Int} (h : a < b) : sgn a b = -1 := if_pos h
theorem sgn_gt {a b : Int} (h : b < a) : sgn a b = 1 := by rw [sgn, if_neg (by omega), if_pos h]
theorem sgn_self (a : Int) : sgn a a = 0 := by rw [sgn, if_neg (by omega), if_neg (by omega)]
theorem sgn_zero {a b : Int} : sgn a b = 0 ↔ a = b := by
 unfold sgn
 constructor
 ·intro h
  split at h
  ·omega
  ·split at h <;> omega
 ·intro h
  rw [if_neg (by omega), if_neg (by omega)]
structure IsCmp {α : Type} (c : α → α → Int) : Prop where
 one : ∀ a b, c a b = -1 ∨ c a b = 0 ∨ c a b = 1
 anti : ∀ a b, c a b = - c b a
 trans : ∀ a b d, c a b ≤ 0 → c b d ≤ 0 → c a d ≤ 0
section
variable {α β : Type} {c : α → α → Int}
theorem IsCmp.refl (h : IsCmp c) (a : α) : c a a = 0 := by have := h.anti a a; omega
theorem IsCmp.lt_le (h : IsCmp c) {a b d : α} (h1 : c a b < 0) (h2 : c b d ≤ 0) : c a d < 0 := by
 have h3 := h.trans a b d (by omega) h2
 by_cases e : c a d = 0
 ·have h4 := h.anti d a
  have h5 := h.trans b d a h2 (by omega)
  have h6 := h.anti a b
  omega
 ·omega
theorem IsCmp.left (h : IsCmp c) {a b : α} (d : α) (e : c a b = 0) : c a d = c b d := by
 have e2 := h.anti b a
 have p1 := h.one a d
 have p2 := h.one b d
 have q1 := h.anti a d
 have q2 := h.anti b d
 have t1 := fun x => h.trans a b d (by omega) x
 have t2 := fun x => h.trans b a d (by omega) x
 have t3 := fun x => h.trans d a b x (by omega)
 have t4 := fun x => h.trans d b a x (by omega)
 rcases p1 with p1 | p1 | p1
 ·have := t2 (by omega)
  by_cases z : c b d = 0
  ·have := t4 (by omega); omega
  ·omega
 ·have := t2 (by omega)
  have := t3 (by omega)
  omega
 ·have := t3 (by omega)
  by_cases z : c b d = 0
  ·have := t1 (by omega); omega
  ·omega
theorem IsCmp.right (h : IsCmp c) {a b : α} (d : α) (e : c a b = 0) : c d a = c d b := by
 have := h.left d e
 have := h.anti d a
 have := h.anti d b
 omega
theorem IsCmp.nought : IsCmp (fun _ _ : α => (0 : Int)) := ⟨fun _ _ => .inr (.inl rfl), fun _ _ => rfl, fun _ _ _ _ _ => Int.le_refl _⟩
theorem IsCmp.on {c : β → β → Int} (h : IsCmp c) (f : α → β) : IsCmp (fun a b => c (f a) (f b)) :=
 ⟨fun _ _ => h.one _ _, fun _ _ => h.anti _ _, fun _ _ _ => h.trans _ _ _⟩
theorem IsCmp.sgn : IsCmp sgn := by
 refine ⟨fun a b => ?_, fun a b => ?_, fun a b d => ?_⟩
 ·unfold Order.sgn; split
  ·omega
  ·split <;> omega
 ·rcases Int.lt_trichotomy a b with h | h | h
  ·rw [sgn_lt h, sgn_gt h]
  ·rw [sgn_zero.2 h, sgn_zero.2 h.symm]; rfl
  ·rw [sgn_gt h, sgn_lt h]; rfl
 ·intro h1 h2
  have h1' : a ≤ b := by
   unfold Order.sgn at h1; split at h1
   ·omega
   ·split at h1 <;> omega
  have h2' : b ≤ d := by
   unfold Order.sgn at h2; split at h2
   ·omega
   ·split at h2 <;> omega
  unfold Order.sgn; split
  ·omega
  ·rw [if_neg (by omega)]; omega
theorem IsCmp.next {κ : Type} {d : κ → α → α → Int} (h : IsCmp c) (hd : ∀ k, IsCmp (d k)) (f : α → κ) (hf : ∀ a b, c a b = 0 → f a = f b) : IsCmp (fun a b => if c a b = 0 then d (f a) a b else c a b) := by
 refine ⟨fun a b => ?_, fun a b => ?_, fun a b e => ?_⟩
 ·show (if c a b = 0 then d (f a) a b else c a b) = -1 ∨ (if c a b = 0 then d (f a) a b else c a b) = 0 ∨ (if c a b = 0 then d (f a) a b else c a b) = 1
  split
  ·exact (hd _).one _ _
  ·exact h.one _ _
 ·show (if c a b = 0 then d (f a) a b else c a b) = - (if c b a = 0 then d (f b) b a else c b a)
  have := h.anti a b
  by_cases e : c a b = 0
  ·rw [if_pos e, if_pos (by omega), ← hf a b e]; exact (hd _).anti _ _
  ·rw [if_neg e, if_neg (by omega)]; exact this
 ·show (if c a b = 0 then d (f a) a b else c a b) ≤ 0 → (if c b e = 0 then d (f b) b e else c b e) ≤ 0 → (if c a e = 0 then d (f a) a e else c a e) ≤ 0
  intro h1 h2
  by_cases e1 : c a b = 0
  ·rw [if_pos e1] at h1
   have hl := h.left e e1
   by_cases e2 : c b e = 0
   ·rw [if_pos e2] at h2
    rw [if_pos (by omega)]
    rw [← hf a b e1] at h2
    exact (hd _).trans _ _ _ h1 h2
   ·rw [if_neg e2] at h2
    rw [if_neg (by omega)]; omega
  ·rw [if_neg e1] at h1
   by_cases e2 : c b e = 0
   ·have hr := h.right a e2
    rw [if_neg (by omega)]; omega
   ·rw [if_neg e2] at h2
    have := h.lt_le (a := a) (b := b) (d := e) (by omega) (by omega)
    rw [if_neg (by omega)]; omega
def lex (c : α → α → Int) : List α → List α → Int
 | [], [] => 0
 | [], _ :: _ => -1
 | _ :: _, [] => 1
 | a :: r, b :: s => if c a b = 0 then lex c r s else c a b
theorem IsCmp.lex (h : IsCmp c) : IsCmp (lex c) := by
 refine ⟨?_, ?_, ?_⟩
 ·intro a
  induction a with
  | nil => intro b; cases b <;> simp [Order.lex]
  | cons x r ih =>
   intro b
   cases b with
   | nil => simp [Order.lex]
   | cons y s =>
    rw [Order.lex]
    split
    ·exact ih s
    ·exact h.one _ _
 ·intro a
  induction a with
  | nil => intro b; cases b <;> simp [Order.lex]
  | cons x r ih =>
   intro b
   cases b with
   | nil => simp [Order.lex]
   | cons y s =>
    rw [Order.lex, Order.lex]
    have := h.anti x y
    by_cases e : c x y = 0
    ·rw [if_pos e, if_pos (by omega)]; exact ih s
    ·rw [if_neg e, if_neg (by omega)]; exact this
 ·intro a
  induction a with
  | nil =>
   intro b d _ h2
   cases d with
   | nil => simp [Order.lex]
   | cons z t => simp [Order.lex]
  | cons x r ih =>
   intro b d h1 h2
   cases b with
   | nil => simp [Order.lex] at h1
   | cons y s =>
    cases d with
    | nil => simp [Order.lex] at h2
    | cons z t =>
     rw [Order.lex] at h1 h2 ⊢
     by_cases e1 : c x y = 0
     ·rw [if_pos e1] at h1
      have hl := h.left z e1
      by_cases e2 : c y z = 0
      ·rw [if_pos e2] at h2
       rw [if_pos (by omega)]; exact ih s t h1 h2
      ·rw [if_neg e2] at h2
       rw [if_neg (by omega)]; omega
     ·rw [if_neg e1] at h1
      by_cases e2 : c y z = 0
      ·have hr := h.right x e2
       rw [if_neg (by omega)]; omega
      ·rw [if_neg e2] at h2
       have := h.lt_le (a := x) (b := y) (d := z) (by omega) (by omega)
       rw [if_neg (by omega)]; omega
theorem lex_step {a b : List α} {k : Nat} (ha : k < a.length) (hb : k < b.length) (e : c a[k] b[k] = 0) : lex c (a.drop k) (b.drop k) = lex c (a.drop (k + 1)) (b.drop (k + 1)) := by
 rw [List.drop_eq_getElem_cons ha, List.drop_eq_getElem_cons hb, lex, if_pos e]
theorem lex_here {a b : List α} {k : Nat} (ha : k < a.length) (hb : k < b.length) (e : c a[k] b[k] ≠ 0) : lex c (a.drop k) (b.drop k) = c a[k] b[k] := by
 rw [List.drop_eq_getElem_cons ha, List.drop_eq_getElem_cons hb, lex, if_neg e]
theorem lex_end {a b : List α} {k : Nat} (ha : k ≤ a.length) (hb : k ≤ b.length) (e : k = a.length ∨ k = b.length) : lex c (a.drop k) (b.drop k) = sgn a.length b.length := by
 rcases e with e | e
 ·subst e
  rw [List.drop_eq_nil_of_le (Nat.le_refl _)]
  by_cases h : a.length < b.length
  ·rw [List.drop_eq_getElem_cons h, lex, sgn_lt (by omega)]
  ·rw [List.drop_eq_nil_of_le (by omega), lex, sgn_zero.2 (by omega)]
 ·subst e
  rw [List.drop_eq_nil_of_le (Nat.le_refl b.length)]
  by_cases h : b.length < a.length
  ·rw [List.drop_eq_getElem_cons h, lex, sgn_gt (by omega)]
  ·rw [List.drop_eq_nil_of_le (by omega), lex, sgn_zero.2 (by omega)]
end
def oct (a b : Nat) : Int := sgn a b
def octs (a b : List Nat) : Int := lex oct a b
def bytes (s : ByteArray) : List Nat := s.data.toList.map UInt8.toNat
def text (a b : ByteArray) : Int := octs (bytes a) (bytes b)
theorem oct_cmp : IsCmp oct := IsCmp.on (c := sgn) IsCmp.sgn (fun a : Nat => (a : Int))
theorem octs_cmp : IsCmp octs := oct_cmp.lex
theorem text_cmp : IsCmp text := octs_cmp.on bytes
theorem compareBytes_octs : ∀ (a b : List UInt8), Lib.compareBytes a b = octs (a.map UInt8.toNat) (b.map UInt8.toNat)
 | [], [] => rfl
 | [], _ :: _ => rfl
 | _ :: _, [] => rfl
 | x :: r, y :: s => by
  have ih := compareBytes_octs r s
  rw [Lib.compareBytes, List.map_cons, List.map_cons, octs, lex]
  rw [octs] at ih
  rw [← ih]
  by_cases h : x < y
  ·have h' : x.toNat < y.toNat := UInt8.lt_iff_toNat_lt.1 h
   have e : oct x.toNat y.toNat = -1 := sgn_lt (by omega)
   rw [if_pos h, e, if_neg (by decide)]
  ·by_cases h2 : y < x
   ·have h' : y.toNat < x.toNat := UInt8.lt_iff_toNat_lt.1 h2
    have e : oct x.toNat y.toNat = 1 := sgn_gt (by omega)
    rw [if_neg h, if_pos h2, e, if_neg (by decide)]
   ·have h3 : ¬ x.toNat < y.toNat := fun e => h (UInt8.lt_iff_toNat_lt.2 e)
    have h4 : ¬ y.toNat < x.toNat := fun e => h2 (UInt8.lt_iff_toNat_lt.2 e)
    have e : oct x.toNat y.toNat = 0 := sgn_zero.2 (by omega)
    rw [if_neg h, if_neg h2, e, if_pos rfl]
theorem compareBytes_text (a b : ByteArray) : Lib.compareBytes a.data.toList b.data.toList = text a b := compareBytes_octs _ _
end Order
end
section
namespace Go.Proofs.YtngllchoiffniaaDoor
open Go.RowKit
abbrev puts (w : World) (G o : Nat) (vs : List Value) : World := w.setCells G o vs
theorem puts_other (G k : Nat) (h : k ≠ G) : ∀ (vs : List Value) (w : World) (o : Nat), (puts w G o vs).heap[k]? = w.heap[k]?
 | [], _, _ => rfl
 | v :: vs, w, o => (puts_other G k h vs _ (o + 1)).trans (Below.heap_setCell w ⟨G, o, none⟩ v k h)
theorem puts_size (G : Nat) : ∀ (vs : List Value) (w : World) (o : Nat), (puts w G o vs).heap.size = w.heap.size
 | [], _, _ => rfl
 | v :: vs, w, o => (puts_size G vs _ (o + 1)).trans (by simp)
theorem puts_same (G : Nat) (t : TypeId) : ∀ (vs : List Value) (w : World) (o : Nat) (cs : Array Value), w.heap[G]? = some (.cells cs t (0, 0)) →
  ∃ ds, (puts w G o vs).heap[G]? = some (.cells ds t (0, 0)) ∧ ds.size = cs.size ∧ (∀ j, j < o → ds[j]? = cs[j]?) ∧ (∀ j, o + vs.length ≤ j → ds[j]? = cs[j]?) ∧ (o + vs.length ≤ cs.size → ∀ j, j < vs.length → ds[o + j]? = vs[j]?)
 | [], w, o, cs, h => ⟨cs, h, rfl, fun _ _ => rfl, fun _ _ => rfl, fun _ j hj => by simp at hj⟩
 | v :: vs, w, o, cs, h => by
  have h1 := heap_setCell_same w G o cs t v h
  obtain ⟨ds, h2, h3, h4, h5, h6⟩ := puts_same G t vs _ (o + 1) _ h1
  refine ⟨ds, h2, by rw [h3]; simp, fun j hj => ?_, fun j hj => ?_, fun hl j hj => ?_⟩
  ·rw [h4 j (by omega), Array.getElem?_setIfInBounds_ne (by omega)]
  ·rw [List.length_cons] at hj
   rw [h5 j (by omega), Array.getElem?_setIfInBounds_ne (by omega)]
  ·rw [List.length_cons] at hl hj
   cases j with
   | zero =>
    rw [Nat.add_zero, h4 o (by omega), Array.getElem?_setIfInBounds_self_of_lt (by omega)]; rfl
   | succ j =>
    have := h6 (by simp; omega) j (by omega)
    rw [show o + (j + 1) = o + 1 + j by omega, this]; rfl
theorem puts_below {w wr : World} {B G : Nat} (h : Below B w wr) (hG : B ≤ G) : ∀ (vs : List Value) (o : Nat), Below B w (puts wr G o vs)
 | [], _ => h
 | v :: vs, o => by
  have h1 : Below B w (wr.setCell ⟨G, o, none⟩ v) := ⟨h.os, h.tape, h.output, by simpa using h.size, fun k hk => (Below.heap_setCell wr ⟨G, o, none⟩ v k (by show k ≠ G; omega)).trans (h.block k hk)⟩
  exact puts_below h1 hG vs (o + 1)
end Go.Proofs.YtngllchoiffniaaDoor
end
section
namespace Go.Proofs.YtngllchoiffniaaDoor
open Go.RowKit
structure Fact where
 p : Value → World → Prop
 keep : ∀ v w w', p v w → Below w.heap.size w w' → p v w'
def Fact.any : Fact := ⟨fun _ _ => True, fun _ _ _ h _ => h⟩
def Fact.is (u : Value) : Fact := ⟨fun v _ => v = u, fun _ _ _ h _ => h⟩
def putAll (a : Act) (V : Nat → Value) : List (Option Tmp) → Nat → Act
 | [], _ => a
 | d :: r, k => putAll (a.put d (V k)) V r (k + 1)
def upd (V : Nat → Value) (i : Nat) (v : Value) : Nat → Value := fun j => if j = i then v else V j
theorem putAll_congr {V V' : Nat → Value} : ∀ (r : List (Option Tmp)) (k : Nat) (a : Act), (∀ j, k ≤ j → V j = V' j) → putAll a V r k = putAll a V' r k
 | [], _, _, _ => rfl
 | d :: r, k, a, h => by
  rw [putAll, putAll, h k (Nat.le_refl _)]
  exact putAll_congr r (k + 1) _ (fun j hj => h j (by omega))
theorem putAll_put {V : Nat → Value} {x : Option Tmp} (v : Value) : ∀ (r : List (Option Tmp)) (k : Nat) (a : Act), (∀ d, x = some d → some d ∉ r) → (putAll a V r k).put x v = putAll (a.put x v) V r k
 | [], _, _, _ => rfl
 | d :: r, k, a, h => by
  rw [putAll, putAll, putAll_put v r (k + 1) _ (fun e he hm => h e he (List.mem_cons_of_mem _ hm))]
  congr 1
  refine Act.put_comm a _ _ (fun e he hx => ?_)
  exact h e hx (by rw [he]; exact List.mem_cons_self)
theorem put_put (a : Act) (x : Option Tmp) (u v : Value) : (a.put x u).put x v = a.put x v := by
 cases x with
 | none => rfl
 | some d => simp [Act.put]
def nodupB : List (Option Tmp) → Bool
 | [] => true
 | none :: r => nodupB r
 | some d :: r => !r.contains (some d) && nodupB r
theorem nodup_head {x : Option Tmp} {r : List (Option Tmp)} (h : nodupB (x :: r) = true) : (∀ d, x = some d → some d ∉ r) ∧ nodupB r = true := by
 cases x with
 | none => exact ⟨nofun, h⟩
 | some d =>
  rw [nodupB, Bool.and_eq_true] at h
  refine ⟨fun e he hm => ?_, h.2⟩
  cases he
  have h1 := h.1
  rw [Bool.not_eq_true', ← Bool.not_eq_true, List.contains_iff_mem] at h1
  exact h1 hm
theorem putAll_upd {V : Nat → Value} (v : Value) : ∀ (ds : List (Option Tmp)) (k i : Nat) (x : Option Tmp) (a : Act), nodupB ds = true → ds[i]? = some x → (putAll a V ds k).put x v = putAll a (upd V (k + i) v) ds k
 | [], _, _, _, _, _, h => by simp at h
 | d :: r, k, 0, x, a, hn, h => by
  obtain ⟨h1, h2⟩ := nodup_head hn
  obtain rfl : d = x := by simpa using h
  rw [putAll, putAll, putAll_put v r _ _ h1, put_put, show upd V (k + 0) v k = v from if_pos rfl]
  exact putAll_congr r _ _ (fun j hj => (if_neg (by omega)).symm)
 | d :: r, k, i + 1, x, a, hn, h => by
  obtain ⟨h1, h2⟩ := nodup_head hn
  rw [putAll, putAll, putAll_upd v r (k + 1) i x _ h2 (by simpa using h), show upd V (k + (i + 1)) v k = V k from if_neg (by omega), show k + 1 + i = k + (i + 1) by omega]
theorem put_own (a : Act) (d : Tmp) : a.put (some d) (a.tmps.getD d undef) = a := by
 obtain ⟨ts, ds⟩ := a
 simp only [Act.put, Act.mk.injEq, and_true]
 apply Array.ext_getElem?
 intro i
 rw [Array.getElem?_setIfInBounds]
 by_cases e : d = i
 ·subst e
  by_cases h : d < ts.size
  ·simp [h]
  ·simp [h]
 ·simp [e]
def own0 (a : Act) (ds : List (Option Tmp)) : Nat → Value := fun j => match ds[j]? with | some (some d) => a.tmps.getD d undef | _ => undef
theorem putAll_own {a : Act} : ∀ (ds : List (Option Tmp)) (k : Nat) (V : Nat → Value), (∀ i d, ds[i]? = some (some d) → V (k + i) = a.tmps.getD d undef) → putAll a V ds k = a
 | [], _, _, _ => rfl
 | none :: r, k, V, h => by
  rw [putAll]
  exact putAll_own r (k + 1) V (fun i d hi => by rw [show k + 1 + i = k + (i + 1) by omega]; exact h (i + 1) d (by simpa using hi))
 | some d :: r, k, V, h => by
  rw [putAll, show V k = a.tmps.getD d undef from h 0 d (by simp), put_own]
  exact putAll_own r (k + 1) V (fun i d hi => by rw [show k + 1 + i = k + (i + 1) by omega]; exact h (i + 1) d (by simpa using hi))
def unl (l : Array Bool) : Nat → Nat
 | 0 => 0
 | n + 1 => unl l n + (if l.getD n true = true then 0 else 1)
theorem unl_le (l : Array Bool) : ∀ n, unl l n ≤ n
 | 0 => Nat.le_refl _
 | n + 1 => by have := unl_le l n; rw [unl]; split <;> omega
theorem unl_set_le (l : Array Bool) (i : Nat) : ∀ n, unl (l.setIfInBounds i true) n ≤ unl l n
 | 0 => Nat.le_refl _
 | n + 1 => by
  have := unl_set_le l i n
  rw [unl, unl]
  by_cases e : i = n
  ·subst e
   have : (l.setIfInBounds i true).getD i true = true := by
    by_cases h : i < l.size
    ·simp [h]
    ·simp [h]
   rw [if_pos this]; omega
  ·rw [getD_set_ne true e]; omega
theorem unl_set_lt (l : Array Bool) (i : Nat) (hi : l.getD i true = false) : ∀ n, i < n → unl (l.setIfInBounds i true) n < unl l n
 | 0, h => by omega
 | n + 1, h => by
  rw [unl, unl]
  by_cases e : i = n
  ·subst e
   have h1 : (l.setIfInBounds i true).getD i true = true := by
    by_cases h : i < l.size
    ·simp [h]
    ·simp [h]
   have h2 := unl_set_le l i i
   rw [if_pos h1, hi, if_neg (by decide)]; omega
  ·have := unl_set_lt l i hi n (by omega)
   rw [getD_set_ne true e]; omega
theorem unl_zero (l : Array Bool) : ∀ n, unl l n = 0 → ∀ j, j < n → l.getD j true = true
 | 0, _, _, h => by omega
 | n + 1, h, j, hj => by
  rw [unl] at h
  have h1 : l.getD n true = true := by
   by_cases e : l.getD n true = true
   ·exact e
   ·rw [if_neg e] at h; omega
  by_cases e : j = n
  ·subst e; exact h1
  ·exact unl_zero l n (by omega) j (by omega)
def backB (md : Region.Mode) : List Oper → Nat → Bool
 | [], _ => true
 | o :: r, i => (o.after.all fun e => !Region.binds md e || decide (e.on < i)) && backB md r (i + 1)
theorem back_spec (md : Region.Mode) : ∀ (l : List Oper) (k i : Nat) (o : Oper), backB md l k = true → l[i]? = some o → ∀ e ∈ o.after, Region.binds md e = true → e.on < k + i
 | [], _, _, _, _, h => by simp at h
 | x :: r, k, 0, o, hb, h => by
  obtain rfl : x = o := by simpa using h
  rw [backB, Bool.and_eq_true, Array.all_eq_true_iff_forall_mem] at hb
  intro e he hbind
  have := hb.1 e he
  rw [hbind] at this
  simpa using this
 | x :: r, k, i + 1, o, hb, h => by
  rw [backB, Bool.and_eq_true] at hb
  intro e he hbind
  have := back_spec md r (k + 1) i o hb.2 (by simpa using h) e he hbind
  omega
section
variable {P : Program} {Q : Exit → Act → World → Prop} {md : Region.Mode}
def factAt (fs : List Fact) (j : Nat) : Fact := fs.getD j Fact.any
def FactStep (P : Program) (md : Region.Mode) (ops : Array Oper) (Q : Exit → Act → World → Prop) (A : (Nat → Value) → Act) (w0 : World) (fs : List Fact) (i : Nat) (o : Oper) : Prop :=
 ∀ (V : Nat → Value) (w : World), Below w0.heap.size w0 w → Shut (∀ j, (o.after.any fun e => Region.binds md e && e.on == j) = true → (factAt fs j).p (V j) w) →
  ∀ K : Act → World → Prop, Shut (∀ a' v w', (A V).put o.dst v = a' → Below w.heap.size w w' → (factAt fs i).p v w' → K a' w') →
  if Region.wanted o (yielded ops (A V).tmps) = true then Oper.wp P o (A V) w K Q else K ((A V).put o.dst undef) w
def FactSteps (P : Program) (md : Region.Mode) (ops : Array Oper) (Q : Exit → Act → World → Prop) (A : (Nat → Value) → Act) (w0 : World) (fs : List Fact) : List Oper → Nat → Prop
 | [], _ => True
 | o :: r, i => FactStep P md ops Q A w0 fs i o ∧ FactSteps P md ops Q A w0 fs r (i + 1)
theorem FactSteps.at {ops : Array Oper} {A : (Nat → Value) → Act} {w0 : World} {fs : List Fact} : ∀ {r : List Oper} {k i : Nat} {o : Oper}, FactSteps P md ops Q A w0 fs r k → r[i]? = some o → FactStep P md ops Q A w0 fs (k + i) o
 | [], _, _, _, _, h => by simp at h
 | x :: r, k, 0, o, hs, h => by
  obtain rfl : x = o := by simpa using h
  exact hs.1
 | x :: r, k, i + 1, o, hs, h => by
  have := FactSteps.at (r := r) (k := k + 1) (i := i) hs.2 (by simpa using h)
  rwa [show k + 1 + i = k + (i + 1) by omega] at this
theorem facts_any {l : List Oper} {A : (Nat → Value) → Act} {w0 : World} {fs : List Fact} (hb : backB md l 0 = true)
  (hA : ∀ V i o v, l[i]? = some o → (A V).put o.dst v = A (upd V i v)) (hs : FactSteps P md l.toArray Q A w0 fs l 0)
  (hend : ∀ V w, Below w0.heap.size w0 w → (∀ j, j < l.length → (factAt fs j).p (V j) w) → Q .normal (A V) w) :
  ∀ (fuel : Nat) (listed : Array Bool) (V : Nat → Value) (w : World), listed.size = l.length → unl listed l.length ≤ fuel → Below w0.heap.size w0 w →
   (∀ j, listed.getD j false = true → (factAt fs j).p (V j) w) → wpAny P md l.toArray Q fuel listed (A V) w := by
 have full : ∀ (listed : Array Bool), Region.ready md l.toArray listed = [] → ∀ n j, j < n → j < l.length → listed.getD j true = true := by
  intro listed hr n
  induction n with
  | zero => intro j h; omega
  | succ n ih =>
   intro j hj hl
   by_cases e : listed.getD j true = true
   ·exact e
   ·exfalso
    have ho : l[j]? = some l[j] := List.getElem?_eq_getElem hl
    have : j ∈ Region.ready md l.toArray listed := by
     refine mem_ready.2 ⟨by simpa using e, l[j], by simp, fun e' he' hb' => ?_⟩
     have hlt := back_spec md l 0 j _ hb ho e' he' hb'
     have h1 := ih e'.on (by omega) (by omega)
     by_cases hs : e'.on < listed.size
     ·simp [hs] at h1 ⊢; exact h1
     ·exfalso
      apply e
      have : ¬ j < listed.size := by omega
      simp [this]
    rw [hr] at this
    cases this
 have done : ∀ (listed : Array Bool) (V : Nat → Value) (w : World), listed.size = l.length → (∀ j, j < l.length → listed.getD j true = true) → Below w0.heap.size w0 w →
   (∀ j, listed.getD j false = true → (factAt fs j).p (V j) w) → Q .normal (A V) w := fun listed V w hz hall hB hf => hend V w hB fun j hj => hf j (by
    have := hall j hj
    have h2 : j < listed.size := by omega
    simp [h2] at this ⊢; exact this)
 intro fuel
 induction fuel with
 | zero =>
  intro listed V w hz hu hB hf
  have hall := unl_zero listed l.length (by omega)
  refine ⟨?_, done listed V w hz hall hB hf⟩
  cases hr : Region.ready md l.toArray listed with
  | nil => rfl
  | cons x xs =>
   have hx : x ∈ Region.ready md l.toArray listed := by rw [hr]; exact List.mem_cons_self
   obtain ⟨h0, o, ho, _⟩ := mem_ready.1 hx
   have hlt : x < l.length := by simpa using (Array.getElem?_eq_some_iff.1 ho).1
   rw [hall x hlt] at h0; cases h0
 | succ fuel ih =>
  intro listed V w hz hu hB hf
  refine ⟨fun hr => done listed V w hz (fun j hj => full listed hr (j + 1) j (by omega) hj) hB hf, fun i hi => ?_⟩
  obtain ⟨h0, o, ho, hall⟩ := mem_ready.1 hi
  have ho' : l[i]? = some o := by simpa using ho
  have hlt : i < l.length := (List.getElem?_eq_some_iff.1 ho').1
  have hstep := FactSteps.at (k := 0) (i := i) hs ho'
  rw [Nat.zero_add] at hstep
  have h1 := hstep V w hB (fun j hj => hf j (by
   obtain ⟨e, he, hb2⟩ := Array.any_eq_true'.1 hj
   simp only [Bool.and_eq_true, beq_iff_eq] at hb2
   rw [← hb2.2]; exact hall e he hb2.1)) (wpAny P md l.toArray Q fuel (listed.setIfInBounds i true)) (fun a' v w' ha hb2 hfi => by
    rw [← ha, hA V i o v ho']
    refine ih _ _ _ (by simpa using hz) (by have := unl_set_lt listed i h0 l.length hlt; omega) (hB.trans (hb2.mono hB.size)) (fun j hj => ?_)
    by_cases e : j = i
    ·subst e
     rw [show upd V j v j = v from if_pos rfl]; exact hfi
    ·rw [show upd V i v j = V j from if_neg e]
     refine (factAt fs j).keep _ _ _ (hf j ?_) hb2
     rw [getD_set_ne false (Ne.symm e)] at hj
     exact hj)
  unfold wpOp
  simp only [ho]
  split
  ·rename_i hw
   rw [if_pos hw] at h1
   exact .inl h1
  ·rename_i hw
   rw [if_neg hw] at h1
   exact h1
theorem fact_free {ops : Array Oper} {A : (Nat → Value) → Act} {w0 : World} {fs : List Fact} {i : Nat} {o : Oper} (hg : o.guard = none)
  (h : ∀ (V : Nat → Value) (w : World), Below w0.heap.size w0 w → Shut (∀ j, (o.after.any fun e => Region.binds md e && e.on == j) = true → (factAt fs j).p (V j) w) →
   ∀ K : Act → World → Prop, Shut (∀ v w', Below w.heap.size w w' → (factAt fs i).p v w' → K ((A V).put o.dst v) w') → Oper.wp P o (A V) w K Q) : FactStep P md ops Q A w0 fs i o := by
 intro V w hB hF K hK
 rw [if_pos (show Region.wanted o (yielded ops (A V).tmps) = true by simp [Region.wanted, hg])]
 exact h V w hB hF K (fun v w' h1 h2 => hK _ v w' rfl h1 h2)
theorem wp_region_facts {id : Nat} {a : Act} {w : World} {l : List Oper} (A : (Nat → Value) → Act) (fs : List Fact) (hm : P.follows .mixedOrders = true) (hb : backB .any l 0 = true)
  (hn : nodupB (l.map (·.dst)) = true) (hA : ∀ V, putAll a V (l.map (·.dst)) 0 = A V) (hs : FactSteps P .any l.toArray Q A w fs l 0)
  (hend : ∀ V w', Below w.heap.size w w' → (∀ j, j < l.length → (factAt fs j).p (V j) w') → Q .normal (A V) w') : (Code.region id l.toArray true).wp P Q a w := by
 refine wp_region_any hm ?_
 have e0 : a = A (own0 a (l.map (·.dst))) := by
  rw [← hA, putAll_own]
  intro i d hi
  rw [Nat.zero_add, own0, hi]
 have h := facts_any (fs := fs) hb (fun V i o v ho => by
   rw [← hA, ← hA]
   have := putAll_upd (V := V) v (l.map (·.dst)) 0 i o.dst a hn (by rw [List.getElem?_map, ho]; rfl)
   rwa [Nat.zero_add] at this) hs hend l.toArray.size (Array.replicate l.toArray.size false) (own0 a (l.map (·.dst))) { w with drawn := w.drawn + 1 } (by simp) (by simpa using unl_le _ l.length) ⟨rfl, rfl, rfl, Nat.le_refl _, fun _ _ => rfl⟩
   (fun j hj => by
    exfalso
    have e : (Array.replicate l.toArray.size false).getD j false = false := by
     by_cases h : j < l.length
     ·simp [h]
     ·simp [h]
    rw [e] at hj; cases hj)
 rw [← e0] at h
 exact h
theorem put_is {K : Act → World → Prop} {a a' : Act} {w : World} (e : a = a') (h : K a w) : K a' w := e ▸ h
end
end Go.Proofs.YtngllchoiffniaaDoor
end
section
namespace Go.Proofs.YtngllchoiffniaaDoor
open Go.RowKit
structure RM (F : Nat → Prop) (w w' : World) : Prop where
 os : w'.os = w.os
 tape : w'.tape = w.tape
 output : w'.output = w.output
 size : w.heap.size ≤ w'.heap.size
 block : ∀ k, k < w.heap.size → ¬ F k → w'.heap[k]? = w.heap[k]?
section
variable {F G F' : Nat → Prop} {w w' w2 : World}
theorem RM.refl (F : Nat → Prop) (w : World) : RM F w w := ⟨rfl, rfl, rfl, Nat.le_refl _, fun _ _ _ => rfl⟩
theorem RM.trans (h : RM F w w') (h2 : RM G w' w2) (hG : ∀ k, k < w.heap.size → G k → F k) : RM F w w2 :=
 ⟨h2.os.trans h.os, h2.tape.trans h.tape, h2.output.trans h.output, Nat.le_trans h.size h2.size, fun k hk hn => (h2.block k (Nat.lt_of_lt_of_le hk h.size) (fun e => hn (hG k hk e))).trans (h.block k hk hn)⟩
theorem RM.of_below (hb : Below w.heap.size w w') : RM F w w' := ⟨hb.os, hb.tape, hb.output, hb.size, fun k hk _ => hb.block k hk⟩
theorem RM.below {B : Nat} (h : RM F w w') (hB : B ≤ w.heap.size) (hF : ∀ k, F k → B ≤ k) : Below B w w' := ⟨h.os, h.tape, h.output, h.size, fun k hk => h.block k (by omega) (fun e => by have := hF k e; omega)⟩
theorem RM.cell {b o : Nat} {v : Value} (h : RM F w w') (hc : w.cell? ⟨b, o, none⟩ = some v) (hn : ¬ F b) : w'.cell? ⟨b, o, none⟩ = some v :=
 (World.cell?_of_block (a := ⟨b, o, none⟩) (h.block b (World.block_lt_of_cell? w _ hc) hn)).trans hc
theorem RM.mono (h : RM F w w') (hF : ∀ k, k < w.heap.size → F k → G k) : RM G w w' := ⟨h.os, h.tape, h.output, h.size, fun k hk hn => h.block k hk (fun e => hn (hF k hk e))⟩
end
end Go.Proofs.YtngllchoiffniaaDoor
end
section
namespace Go.Proofs.YtngllchoiffniaaDoor.Seal
def T (s : Nat) : Nat := s / 2 ^^^ s % 2 * 2197175160
def Tn : Nat → Nat → Nat
 | 0, s => s
 | n + 1, s => Tn n (T s)
theorem T_xor (a b : Nat) : T (a ^^^ b) = T a ^^^ T b := by
 unfold T
 have h2 : (a ^^^ b) % 2 = (a % 2) ^^^ (b % 2) := by
  have := Nat.xor_mod_two_pow (a := a) (b := b) (n := 1)
  simpa using this
 have h1 : (a ^^^ b) / 2 = (a / 2) ^^^ (b / 2) := Nat.xor_div_two
 rw [h1, h2]
 rcases Nat.mod_two_eq_zero_or_one a with ha | ha <;> rcases Nat.mod_two_eq_zero_or_one b with hb | hb <;> rw [ha, hb] <;> simp
 ·rw [Nat.xor_assoc]
 ·rw [Nat.xor_assoc, Nat.xor_assoc, Nat.xor_comm 2197175160]
 ·rw [Nat.xor_assoc, ← Nat.xor_assoc 2197175160, Nat.xor_comm 2197175160, Nat.xor_assoc, Nat.xor_self, Nat.xor_zero]
theorem Tn_xor (n a b : Nat) : Tn n (a ^^^ b) = Tn n a ^^^ Tn n b := by
 induction n generalizing a b with
 | zero => rfl
 | succ n ih => simp only [Tn, T_xor, ih]
theorem Tn_add (m n s : Nat) : Tn (m + n) s = Tn n (Tn m s) := by
 induction m generalizing s with
 | zero => simp [Tn]
 | succ m ih => rw [Nat.succ_add]; simp only [Tn, ih]
theorem T_zero : T 0 = 0 := rfl
theorem Tn_zero (n : Nat) : Tn n 0 = 0 := by
 induction n with
 | zero => rfl
 | succ n ih => simp only [Tn, T_zero, ih]
theorem Tn_mul (k q : Nat) : Tn k (2 ^ k * q) = q := by
 induction k generalizing q with
 | zero => simp [Tn]
 | succ k ih =>
  have h : T (2 ^ (k + 1) * q) = 2 ^ k * q := by
   have e : 2 ^ (k + 1) * q = 2 * (2 ^ k * q) := by rw [Nat.pow_succ]; rw [Nat.mul_comm (2 ^ k) 2, Nat.mul_assoc]
   rw [e]; unfold T
   have a1 : 2 * (2 ^ k * q) / 2 = 2 ^ k * q := by omega
   have a2 : 2 * (2 ^ k * q) % 2 = 0 := by omega
   rw [a1, a2]; simp
  simp only [Tn, h, ih]
theorem T_lt (s : Nat) (h : s < 4294967296) : T s < 4294967296 := by
 unfold T
 refine Nat.xor_lt_two_pow (n := 32) (by omega) ?_
 have : s % 2 < 2 := Nat.mod_lt _ (by decide)
 omega
theorem xor_eq_zero {a b : Nat} (h : a ^^^ b = 0) : a = b := by
 have : a ^^^ b ^^^ b = 0 ^^^ b := by rw [h]
 simpa [Nat.xor_assoc] using this
theorem T_eq_zero (s : Nat) (h : s < 4294967296) (h0 : T s = 0) : s = 0 := by
 unfold T at h0
 have h1 := xor_eq_zero h0
 rcases Nat.mod_two_eq_zero_or_one s with hs | hs <;> rw [hs] at h1 <;> omega
theorem Tn_eq_zero (n s : Nat) (h : s < 4294967296) (h0 : Tn n s = 0) : s = 0 := by
 induction n generalizing s with
 | zero => exact h0
 | succ n ih => exact T_eq_zero s h (ih _ (T_lt _ h) h0)
theorem add_xor (k q r : Nat) (h : r < 2 ^ k) : 2 ^ k * q + r = r ^^^ 2 ^ k * q := by
 apply Nat.eq_of_testBit_eq
 intro j
 rw [Nat.testBit_two_pow_mul_add _ h, Nat.testBit_xor, Nat.testBit_two_pow_mul]
 by_cases hj : j < k
 ·have hj' : ¬ k ≤ j := by omega
  simp [hj, hj']
 ·have hj' : k ≤ j := by omega
  have : r.testBit j = false := Nat.testBit_lt_two_pow (Nat.lt_of_lt_of_le h (Nat.pow_le_pow_right (by decide) (by omega)))
  simp [hj, hj', this]
theorem split16 (s : Nat) : s = s % 16 ^^^ 2 ^ 4 * (s / 16) := by
 rw [← add_xor 4 (s / 16) (s % 16) (Nat.mod_lt _ (by decide))]; omega
theorem join256 (c r : Nat) (h : c < 256) : c + 256 * r = c ^^^ 2 ^ 8 * r := by
 rw [← add_xor 8 r c h]; omega
def tab : List Nat := [0, 274646895, 549293790, 820201905, 1098587580, 1361435347, 1640403810, 1905808397, 2197175160, 2460548119, 2722870694, 2987750089, 3280807620, 3553878443, 3811616794, 4084100981]
def half (s : Nat) : Nat := s / 16 ^^^ tab.getD (s % 16) 0
theorem tab_eq (i : Nat) (h : i < 16) : tab.getD i 0 = Tn 4 i := by
 have : ∀ i : Fin 16, tab.getD i 0 = Tn 4 i := by decide +kernel
 exact this ⟨i, h⟩
theorem half_eq (s : Nat) : half s = Tn 4 s := by
 conv => rhs; rw [split16 s]
 rw [Tn_xor, Tn_mul, ← tab_eq _ (Nat.mod_lt _ (by decide)), Nat.xor_comm]; rfl
def stepB (s c : Nat) : Nat := half (half (s ^^^ c))
theorem stepB_eq (s c : Nat) : stepB s c = Tn 8 (s ^^^ c) := by unfold stepB; rw [half_eq, half_eq, ← Tn_add]
def Oct (l : List Nat) : Prop := ∀ c ∈ l, c < 256
def run (s : Nat) (l : List Nat) : Nat := l.foldl stepB s
def crc0 (l : List Nat) : Nat := run 4294967295 l
def crc (l : List Nat) : Nat := 4294967295 ^^^ crc0 l
def num : List Nat → Nat
 | [] => 0
 | c :: r => c + 256 * num r
theorem run_eq (s : Nat) (l : List Nat) (h : Oct l) : run s l = Tn (8 * l.length) (s ^^^ num l) := by
 induction l generalizing s with
 | nil => simp [run, Tn, num]
 | cons c r ih =>
  have hc : c < 256 := h c (by simp)
  have hr : Oct r := fun x hx => h x (by simp [hx])
  show run (stepB s c) r = _
  rw [ih _ hr, stepB_eq, List.length_cons, Nat.mul_succ, Nat.add_comm, Tn_add]
  congr 1
  show _ = Tn 8 (s ^^^ (c + 256 * num r))
  rw [join256 c _ hc, ← Nat.xor_assoc, Tn_xor _ (s ^^^ c), Tn_mul]
def le : Nat → Nat → List Nat
 | _, 0 => []
 | x, n + 1 => x % 256 :: le (x / 256) n
theorem oct_replicate (n c : Nat) (h : c < 256) : Oct (List.replicate n c) := by
 intro x hx; rw [(List.mem_replicate.1 hx).2]; exact h
theorem oct_take {l : List Nat} (n : Nat) (h : Oct l) : Oct (l.take n) := fun c hc => h c (List.mem_of_mem_take hc)
theorem oct_drop {l : List Nat} (n : Nat) (h : Oct l) : Oct (l.drop n) := fun c hc => h c (List.mem_of_mem_drop hc)
/-! ### Exclusive or of two lists of one length -/
def xorL : List Nat → List Nat → List Nat
 | a :: r, b :: q => (a ^^^ b) :: xorL r q
 | _, _ => []
theorem length_xorL (a b : List Nat) (h : a.length = b.length) : (xorL a b).length = a.length := by
 induction a generalizing b with
 | nil => cases b <;> rfl
 | cons x r ih => cases b with
  | nil => simp at h
  | cons y q => simp [xorL, ih q (by simpa using h)]
theorem oct_xorL (a b : List Nat) (ha : Oct a) (hb : Oct b) : Oct (xorL a b) := by
 induction a generalizing b with
 | nil => cases b <;> (intro c hc; simp [xorL] at hc)
 | cons x r ih => cases b with
  | nil => intro c hc; simp [xorL] at hc
  | cons y q =>
   intro c hc
   rcases List.mem_cons.1 hc with rfl | hc
   ·exact Nat.xor_lt_two_pow (n := 8) (ha x (by simp)) (hb y (by simp))
   ·exact ih q (fun z hz => ha z (by simp [hz])) (fun z hz => hb z (by simp [hz])) c hc
theorem mix256 (a b x y : Nat) (ha : a < 256) (hb : b < 256) : (a ^^^ b) + 256 * (x ^^^ y) = (a + 256 * x) ^^^ (b + 256 * y) := by
 have e : 2 ^ 8 * (x ^^^ y) = 2 ^ 8 * x ^^^ 2 ^ 8 * y := by
  apply Nat.eq_of_testBit_eq
  intro j
  rw [Nat.testBit_xor, Nat.testBit_two_pow_mul, Nat.testBit_two_pow_mul, Nat.testBit_two_pow_mul, Nat.testBit_xor]
  by_cases h : 8 ≤ j <;> simp [h]
 rw [join256 a x ha, join256 b y hb, join256 _ _ (Nat.xor_lt_two_pow (n := 8) ha hb), e]
 rw [Nat.xor_assoc, ← Nat.xor_assoc b, Nat.xor_comm b, Nat.xor_assoc (2 ^ 8 * x), ← Nat.xor_assoc a]
theorem num_xorL (a b : List Nat) (h : a.length = b.length) (ha : Oct a) (hb : Oct b) : num (xorL a b) = num a ^^^ num b := by
 induction a generalizing b with
 | nil => cases b with
  | nil => rfl
  | cons y q => simp at h
 | cons x r ih => cases b with
  | nil => simp at h
  | cons y q =>
   simp only [xorL, num]
   rw [ih q (by simpa using h) (fun z hz => ha z (by simp [hz])) (fun z hz => hb z (by simp [hz])), mix256 _ _ _ _ (ha x (by simp)) (hb y (by simp))]
theorem run_xorL (s t : Nat) (a b : List Nat) (h : a.length = b.length) (ha : Oct a) (hb : Oct b) : run (s ^^^ t) (xorL a b) = run s a ^^^ run t b := by
 rw [run_eq _ _ (oct_xorL a b ha hb), run_eq _ _ ha, run_eq _ _ hb, length_xorL a b h, num_xorL a b h ha hb, ← h, ← Tn_xor]
 congr 1
 rw [Nat.xor_assoc, ← Nat.xor_assoc t, Nat.xor_comm t, Nat.xor_assoc (num a), ← Nat.xor_assoc s]
theorem num_zeros (n : Nat) : num (List.replicate n 0) = 0 := by
 induction n with
 | zero => rfl
 | succ n ih => simp [List.replicate_succ, num, ih]
theorem sums (a b : List Nat) (h : a.length = b.length) (ha : Oct a) (hb : Oct b) : crc a ^^^ crc b = crc (xorL a b) ^^^ crc (List.replicate a.length 0) := by
 have h0 : Oct (List.replicate a.length 0) := oct_replicate _ _ (by decide)
 have hx := oct_xorL a b ha hb
 have hl := length_xorL a b h
 unfold crc crc0
 rw [run_eq _ _ ha, run_eq _ _ hb, run_eq _ _ hx, run_eq _ _ h0, num_xorL a b h ha hb, num_zeros, hl, List.length_replicate, ← h, Tn_xor, Tn_xor, Tn_xor, Tn_xor, Tn_xor, Tn_zero]
 generalize Tn (8 * a.length) 4294967295 = m
 generalize Tn (8 * a.length) (num a) = x
 generalize Tn (8 * a.length) (num b) = y
 generalize (4294967295 : Nat) = k
 apply Nat.eq_of_testBit_eq
 intro j
 simp only [Nat.testBit_xor, Nat.xor_zero]
 cases k.testBit j <;> cases m.testBit j <;> cases x.testBit j <;> cases y.testBit j <;> rfl
/-! ### A burst -/
theorem told (p q : List Nat) (hl : p.length = q.length) (hp : Oct p) (hq : Oct q) (h4 : 4 ≤ p.length) (v at_ : Nat) (hv : v < 4294967296) (h0 : v ≠ 0) (hat : at_ + 32 ≤ 8 * p.length)
  (hx : num p ^^^ num q = 2 ^ at_ * v) (hs : num (p.drop (p.length - 4)) = crc (p.take (p.length - 4))) : num (q.drop (q.length - 4)) ≠ crc (q.take (q.length - 4)) := by
 intro hc
 have e : xorL p q = xorL (p.take (p.length - 4)) (q.take (p.length - 4)) ++ xorL (p.drop (p.length - 4)) (q.drop (p.length - 4)) := by
  generalize p.length - 4 = n
  clear hs hc hx hat h4 hp hq
  induction p generalizing q n with
  | nil => cases q with
   | nil => simp [xorL]
   | cons y r => simp at hl
  | cons x r ih => cases q with
   | nil => simp at hl
   | cons y s => cases n with
    | zero => simp [xorL]
    | succ n => simp [xorL]; exact ih s (by simpa using hl) n
 rw [← hl] at hc
 have hpt : Oct (p.take (p.length - 4)) := oct_take _ hp
 have hqt : Oct (q.take (p.length - 4)) := oct_take _ hq
 have hpd : Oct (p.drop (p.length - 4)) := oct_drop _ hp
 have hqd : Oct (q.drop (p.length - 4)) := oct_drop _ hq
 have r0 := run_eq 0 (xorL p q) (oct_xorL p q hp hq)
 rw [num_xorL p q hl hp hq, hx, Nat.zero_xor, length_xorL p q hl] at r0
 have r1 : run 0 (xorL p q) = 0 := by
  have ea : run 0 (xorL (p.take (p.length - 4)) (q.take (p.length - 4))) = crc0 (p.take (p.length - 4)) ^^^ crc0 (q.take (p.length - 4)) := by
   have := run_xorL 4294967295 4294967295 (p.take (p.length - 4)) (q.take (p.length - 4)) (by simp; omega) hpt hqt
   rw [Nat.xor_self] at this
   exact this
  have eb : crc0 (p.take (p.length - 4)) ^^^ crc0 (q.take (p.length - 4)) = num (p.drop (p.length - 4)) ^^^ num (q.drop (p.length - 4)) := by
   rw [hs, hc]; unfold crc
   generalize crc0 (p.take (p.length - 4)) = x
   generalize crc0 (q.take (p.length - 4)) = y
   generalize (4294967295 : Nat) = k
   apply Nat.eq_of_testBit_eq
   intro j
   simp only [Nat.testBit_xor]
   cases k.testBit j <;> cases x.testBit j <;> cases y.testBit j <;> rfl
  have ec : run 0 (xorL p q) = run (run 0 (xorL (p.take (p.length - 4)) (q.take (p.length - 4)))) (xorL (p.drop (p.length - 4)) (q.drop (p.length - 4))) := by
   rw [e]; unfold run; rw [List.foldl_append]
  rw [ec, ea, eb, run_eq _ _ (oct_xorL _ _ hpd hqd), num_xorL _ _ (by simp; omega) hpd hqd, Nat.xor_self, Tn_zero]
 rw [r1, show 8 * p.length = at_ + (8 * p.length - at_) by omega, Tn_add, Tn_mul] at r0
 exact h0 (Tn_eq_zero _ v hv r0.symm)
end Go.Proofs.YtngllchoiffniaaDoor.Seal
end
