/- Append, BsonApp, BsonMath, Law. -/
import Derived.Test.YtdihelpimpkfoaaDoorRows
import Derived.Laws.AppendOwn
import Derived.Laws.OwnMore
import Derived.OwnWalk
import Derived.WalkKit
import Derived.Maps.AppendAt
import Derived.Lib.ValidU
import Derived.Lib.ItoaNum
import Derived.ProofKit
import Derived.OpenShut
import Derived.Deep.DeepHandedRow
import Derived.Carry
set_option maxRecDepth 100000
section
namespace Go.Proofs.YtdihelpimpkfoaaDoor
open Go.RowKit
section
variable {P : Program} (w : World)
/-- Where the result of an append lies. -/
def Lies (w w' : World) (v v' : Value) : Prop := (v'.ownBlock = v.ownBlock ∧ w.grownBy w' v.ownBlock) ∨ (v'.ownBlock = some w.heap.size ∧ w.grownBy w' none)
theorem run_append_or (t ty e : TypeId) (i : TypeInfo) (z : Value) (bytes : Nat) (ht : P.underlying t = some (.slice e)) (hi : P.info? e = some i) (hz : i.zero = some z)
    (hsize : i.size = 1) (hby : i.bytes = bytes) (hzs : z.cells.size = 1) (v : Value) (n : Nat) (xs : List Value) (hown : w.ownsRow 0 e 1 v n xs)
    (a : Addr) (m c : Nat) (news : List Value) (hl : news.length = m) (hm : 0 < m) (hnews : ∀ j u, news[j]? = some u → w.cell? (a.add j) = some u) (h1 : ∀ u ∈ news, u.oneCell' = true)
    (h63 : n + m ≤ maxLen) (hbytes : (n + m) * bytes ≤ 140737488355328) :
    ∃ v' w', (Builtin.append_ #[t, t] ty #[v, .slice (some a) m c]).run P w = .ok v' w' ∧ w'.ownsRow 0 e 1 v' (n + m) (xs ++ news) ∧ Lies w w' v v' := by
  subst hby
  have hsmall : n + m ≤ 9223372036854775807 := by simp only [maxLen] at h63; omega
  have hxl : xs.length = n := by have := hown.1; omega
  have grown : ∀ (old : Nat), old < n + m →
      (w.drew.alloc (.cells (xs.toArray ++ news.toArray ++ Builtin.zeroCells z.cells (grownCap w (n + m) old e - (n + m))) e)).ownsRow 0 e 1
        (.slice (some ⟨w.heap.size, 0, none⟩) (n + m) (grownCap w (n + m) old e)) (n + m) (xs ++ news) ∧
      w.grownBy (w.drew.alloc (.cells (xs.toArray ++ news.toArray ++ Builtin.zeroCells z.cells (grownCap w (n + m) old e - (n + m))) e)) none := by
    intro old ho
    have hge := grownCap_ge w (n + m) old e
    have hcm : grownCap w (n + m) old e ≤ maxLen := grownCap_le_maxLen w (n + m) old e h63
    refine ⟨⟨by simp; omega, .inr ⟨w.heap.size, _, _, rfl, Nat.zero_le _, heap_alloc_new w.drew _, hge, hcm, ?_, ?_⟩⟩, ⟨rfl, rfl, rfl, by simp, fun k hk _ => Below.heap_alloc w.drew _ k hk⟩⟩
    · simp only [Array.size_append, List.size_toArray, size_zeroCells, hzs]
      omega
    · simp only [Array.toList_append, List.append_assoc]
      rw [← List.append_assoc]
      exact List.take_left' (by simp; omega)
  rcases hown.2 with ⟨rfl, rfl⟩ | ⟨g, cap, cur, rfl, hbg, hg, hnc, hcm, hcs, htake⟩
  · have hx : xs = [] := List.eq_nil_of_length_eq_zero hxl
    subst hx
    have hr := run_append_nil (P := P) w t ty e i z ht hi hz a m c news (by rw [hsize]; omega) hnews hm (by omega) (by have hb := hbytes; simp only [Nat.zero_add] at hb; omega)
    have hgr := grown 0 (by omega)
    simp only [Nat.zero_add, List.nil_append, Array.empty_append] at hgr ⊢
    exact ⟨_, _, hr, hgr.1, .inr ⟨rfl, hgr.2⟩⟩
  · by_cases hroom : n + m ≤ cap
    · obtain ⟨w', hr, h2, h3⟩ := run_append_fits (P := P) w 0 t ty e i 1 ht hi hsize g n cap xs hown a m c news (by omega) hnews h1 hroom
      exact ⟨_, w', hr, h2, .inl ⟨rfl, h3⟩⟩
    · have holds : ∀ j u, xs[j]? = some u → w.cell? ((⟨g, 0, none⟩ : Addr).add j) = some u := hown.cells (g := g) rfl
      have hr := run_append_grow (P := P) w t ty e i z ht hi hz ⟨g, 0, none⟩ n cap xs (by rw [hsize]; omega) holds a m c news (by rw [hsize]; omega) hnews (by omega) (by omega) (growslice_fits (by omega) hbytes)
      have hgr := grown cap (by omega)
      exact ⟨_, _, hr, hgr.1, .inr ⟨rfl, hgr.2⟩⟩
theorem wpList_append_or {ops : Array Oper} {rest : List Oper} {o : Oper} {a : Act} {Q : Exit → Act → World → Prop} (hgd : o.guard = none) (s x : Operand) (t : TypeId)
    (ho : o.op = .call { callee := .builtin .append, args := #[s, x], argTypes := #[t, t] })
    (e : TypeId) (i : TypeInfo) (z : Value) (bytes : Nat) (ht : P.underlying t = some (.slice e)) (hi : P.info? e = some i) (hz : i.zero = some z)
    (hsize : i.size = 1) (hby : i.bytes = bytes) (hzs : z.cells.size = 1) (v : Value) (n : Nat) (xs : List Value) (hs : a.eval s = v) (hown : w.ownsRow 0 e 1 v n xs)
    (ad : Addr) (m c : Nat) (news : List Value) (hx : a.eval x = .slice (some ad) m c) (hl : news.length = m) (hm : 0 < m) (hnews : ∀ j u, news[j]? = some u → w.cell? (ad.add j) = some u) (h1 : ∀ u ∈ news, u.oneCell' = true)
    (h63 : n + m ≤ maxLen) (hbytes : (n + m) * bytes ≤ 140737488355328)
    (h : ∀ v' w', w'.ownsRow 0 e 1 v' (n + m) (xs ++ news) → Lies w w' v v' → wpList P ops Q rest (a.put o.dst v') w') : wpList P ops Q (o :: rest) a w := by
  refine wpList_plain hgd fun K hK => ?_
  obtain ⟨v', w', hr, h2, h3⟩ := run_append_or (P := P) w t o.type e i z bytes ht hi hz hsize hby hzs v n xs hown ad m c news hl hm hnews h1 h63 hbytes
  unfold Oper.wp execOp
  simp only [ho, resolve, invoke, builtin, Sem.run_bind, Sem.run_pure, Result.andThen_ok, List.map_toArray, List.map_cons, List.map_nil, hs, hx, hr]
  exact hK _ _ (h v' w' h2 h3)
end
end Go.Proofs.YtdihelpimpkfoaaDoor
end
section
namespace Go.Proofs.YtdihelpimpkfoaaDoor
open Go.RowKit
/-- The slice a, m elements long, reads in w as the cells news. -/
def Src (w : World) (a : Option Addr) (m : Nat) (news : List Value) : Prop := (a = none → m = 0) ∧ ∀ ad, a = some ad → ∀ j u, news[j]? = some u → w.cell? (ad.add j) = some u
section
variable {P : Program}
theorem run_none (w : World) (base : Nat) (t ty e : TypeId) (i : TypeInfo) (ht : P.underlying t = some (.slice e)) (hi : P.info? e = some i) (c : Nat)
    (v : Value) (n : Nat) (xs : List Value) (hown : w.ownsRow base e i.size v n xs) : (Builtin.append_ #[t, t] ty #[v, .slice none 0 c]).run P w = .ok v w := by
  obtain ⟨_, ⟨rfl, rfl⟩ | ⟨g, cap, cur, rfl, _, _, hnc, _⟩⟩ := hown
  · simp [Builtin.append_, run_underlying ht, sizeOf, typeInfo, hi, Builtin.lenOf, Builtin.firstCells]
  · simp [Builtin.append_, run_underlying ht, sizeOf, typeInfo, hi, Builtin.lenOf, Builtin.firstCells, hnc, storeCells]
theorem run_src (w : World) (base : Nat) (t ty e : TypeId) (i : TypeInfo) (z : Value) (size bytes : Nat) (ht : P.underlying t = some (.slice e)) (hi : P.info? e = some i) (hz : i.zero = some z)
    (hsize : i.size = size) (hby : i.bytes = bytes) (hzs : z.cells.size = size) (hsz : 0 < size) (v : Value) (n : Nat) (xs : List Value) (hown : w.ownsRow base e size v n xs)
    (a : Option Addr) (m c : Nat) (news : List Value) (hs : Src w a m news) (hl : news.length = m * size) (h1 : ∀ u ∈ news, u.oneCell' = true)
    (h63 : n + m ≤ maxLen) (hbytes : (n + m) * bytes ≤ 140737488355328) (hbase : base ≤ w.heap.size) :
    ∃ v' w', (Builtin.append_ #[t, t] ty #[v, .slice a m c]).run P w = .ok v' w' ∧ w'.ownsRow base e size v' (n + m) (xs ++ news) ∧ w.grownBy w' v.ownBlock := by
  cases a with
  | none =>
    obtain rfl : m = 0 := hs.1 rfl
    obtain rfl : news = [] := List.eq_nil_of_length_eq_zero (by simpa using hl)
    subst hsize
    exact ⟨v, w, run_none w base t ty e i ht hi c v n xs hown, by simpa using hown, World.grownBy.refl w _⟩
  | some ad =>
    obtain ⟨v', w', hr, h2, h3, _⟩ := run_append_own_at (P := P) w base t ty e i z size bytes ht hi hz hsize hby hzs hsz v n xs hown ad m c news hl (hs.2 ad rfl) h1 h63 hbytes hbase
    exact ⟨v', w', hr, h2, h3⟩
theorem wpList_src {w : World} {ops : Array Oper} {rest : List Oper} {o : Oper} {a : Act} {Q : Exit → Act → World → Prop} (hgd : o.guard = none) (s x : Operand) (t : TypeId)
    (ho : o.op = .call { callee := .builtin .append, args := #[s, x], argTypes := #[t, t] })
    (base : Nat) (e : TypeId) (i : TypeInfo) (z : Value) (size bytes : Nat) (ht : P.underlying t = some (.slice e)) (hi : P.info? e = some i) (hz : i.zero = some z)
    (hsize : i.size = size) (hby : i.bytes = bytes) (hzs : z.cells.size = size) (hsz : 0 < size) (v : Value) (n : Nat) (xs : List Value) (hs : a.eval s = v) (hown : w.ownsRow base e size v n xs)
    (ad : Option Addr) (m c : Nat) (news : List Value) (hx : a.eval x = .slice ad m c) (hsrc : Src w ad m news) (hl : news.length = m * size) (h1 : ∀ u ∈ news, u.oneCell' = true)
    (h63 : n + m ≤ maxLen) (hbytes : (n + m) * bytes ≤ 140737488355328) (hbase : base ≤ w.heap.size)
    (h : ∀ v' w', w'.ownsRow base e size v' (n + m) (xs ++ news) → w.grownBy w' v.ownBlock → wpList P ops Q rest (a.put o.dst v') w') : wpList P ops Q (o :: rest) a w := by
  refine wpList_plain hgd fun K hK => ?_
  obtain ⟨v', w', hr, h2, h3⟩ := run_src (P := P) w base t o.type e i z size bytes ht hi hz hsize hby hzs hsz v n xs hown ad m c news hsrc hl h1 h63 hbytes hbase
  unfold Oper.wp execOp
  simp only [ho, resolve, invoke, builtin, Sem.run_bind, Sem.run_pure, Result.andThen_ok, List.map_toArray, List.map_cons, List.map_nil, hs, hx, hr]
  exact hK _ _ (h v' w' h2 h3)
end
end Go.Proofs.YtdihelpimpkfoaaDoor
end
section
namespace Bson
open Go
/-- A value as the package has it. -/
inductive Val where
  | mk (kind n : Int) (s : ByteArray) (b : List Nat) (f : List (ByteArray × Val)) (l : List Val)
def Val.kind : Val → Int | .mk k _ _ _ _ _ => k
def Val.n : Val → Int | .mk _ n _ _ _ _ => n
def Val.s : Val → ByteArray | .mk _ _ s _ _ _ => s
def Val.b : Val → List Nat | .mk _ _ _ b _ _ => b
def Val.f : Val → List (ByteArray × Val) | .mk _ _ _ _ f _ => f
def Val.l : Val → List Val | .mk _ _ _ _ _ l => l
def none_ : ByteArray := ⟨#[]⟩
def zero : Val := .mk 0 0 none_ [] [] []
/-- A number's lowest bytes, the lowest first. -/
def le : Nat → Nat → List Nat
  | _, 0 => []
  | x, n + 1 => x % 256 :: le (x / 256) n
theorem le_length (x n : Nat) : (le x n).length = n := by
  induction n generalizing x with
  | zero => rfl
  | succ n ih => simp [le, ih]
def leN : List Nat → Nat
  | [] => 0
  | c :: r => c + 256 * leN r
theorem leN_le (x n : Nat) : leN (le x n) = x % 256 ^ n := by
  induction n generalizing x with
  | zero => simp [le, leN, Nat.mod_one]
  | succ n ih =>
    rw [le, leN, ih, Nat.pow_succ, Nat.mul_comm (256 ^ n) 256, Nat.mod_mul]
theorem leN_lt : ∀ l : List Nat, (∀ c ∈ l, c < 256) → leN l < 256 ^ l.length
  | [], _ => by simp [leN]
  | c :: r, h => by
    have h1 := leN_lt r (fun x hx => h x (by simp [hx]))
    have h2 : c < 256 := h c (by simp)
    simp only [leN, List.length_cons, Nat.pow_succ]
    omega
theorem le_leN : ∀ l : List Nat, (∀ c ∈ l, c < 256) → le (leN l) l.length = l
  | [], _ => rfl
  | c :: r, h => by
    have h1 := le_leN r (fun x hx => h x (by simp [hx]))
    have h2 : c < 256 := h c (by simp)
    rw [List.length_cons, le, leN, show (c + 256 * leN r) % 256 = c by omega, show (c + 256 * leN r) / 256 = leN r by omega, h1]
/-- The number that a list of bytes is, with its sign. -/
def signed (l : List Nat) : Int := if leN l < 256 ^ l.length / 2 then (leN l : Int) else (leN l : Int) - (256 ^ l.length : Nat)
/-- A whole number's lowest n bytes. -/
def leI (x : Int) (n : Nat) : List Nat := le (x % (256 ^ n : Nat)).toNat n
theorem leI_length (x : Int) (n : Nat) : (leI x n).length = n := le_length _ _
theorem signed_leI (x : Int) (n : Nat) (h0 : -((256 ^ n / 2 : Nat) : Int) ≤ x) (h1 : x < (256 ^ n / 2 : Nat)) (hn : 0 < n) : signed (leI x n) = x := by
  have hp : 0 < 256 ^ n := Nat.pow_pos (by decide)
  have hd : 256 ^ n = 2 * (256 ^ n / 2) := by
    obtain ⟨m, rfl⟩ : ∃ m, n = m + 1 := ⟨n - 1, by omega⟩
    rw [Nat.pow_succ]; omega
  unfold signed
  rw [leI_length]
  unfold leI
  rw [leN_le]
  generalize hP : 256 ^ n = Q at *
  have e : (x % (Q : Int)).toNat % Q = (x % (Q : Int)).toNat := Nat.mod_eq_of_lt (by have := Int.emod_lt_of_pos x (show (0 : Int) < (Q : Int) by omega); have := Int.emod_nonneg x (show (Q : Int) ≠ 0 by omega); omega)
  rw [e]
  by_cases hx : 0 ≤ x
  · have : x % (Q : Int) = x := Int.emod_eq_of_lt hx (by omega)
    rw [this, if_pos (by omega)]; omega
  · have : x % (Q : Int) = x + Q := by
      rw [← Int.add_emod_right]
      exact Int.emod_eq_of_lt (by omega) (by omega)
    rw [this, if_neg (by omega)]; omega
theorem leI_signed (l : List Nat) (h : ∀ c ∈ l, c < 256) : leI (signed l) l.length = l := by
  have hlt := leN_lt l h
  have e : (signed l % (256 ^ l.length : Nat)).toNat = leN l := by
    unfold signed
    generalize 256 ^ l.length = Q at *
    split
    · rw [Int.emod_eq_of_lt (by omega) (by omega)]; omega
    · rw [show ((leN l : Int) - (Q : Nat)) % (Q : Nat) = (leN l : Int) by
        rw [Int.sub_emod_right]; exact Int.emod_eq_of_lt (by omega) (by omega)]
      omega
  unfold leI
  rw [e, le_leN l h]
/-- A text's bytes. -/
def bytes (s : ByteArray) : List Nat := s.data.toList.map UInt8.toNat
def ofBytes (l : List Nat) : ByteArray := ⟨(l.map UInt8.ofNat).toArray⟩
theorem bytes_length (s : ByteArray) : (bytes s).length = s.size := by simp [bytes]
theorem bytes_lt (s : ByteArray) : ∀ c ∈ bytes s, c < 256 := by
  intro c hc
  obtain ⟨x, _, rfl⟩ := List.mem_map.1 hc
  exact x.toNat_lt
theorem ofBytes_bytes (s : ByteArray) : ofBytes (bytes s) = s := by
  have e : ∀ l : List UInt8, (l.map UInt8.toNat).map UInt8.ofNat = l := by
    intro l
    induction l with
    | nil => rfl
    | cons c r ih => rw [List.map_cons, List.map_cons, ih, UInt8.ofNat_toNat]
  show (⟨((s.data.toList.map UInt8.toNat).map UInt8.ofNat).toArray⟩ : ByteArray) = s
  rw [e]
theorem bytes_ofBytes (l : List Nat) (h : ∀ c ∈ l, c < 256) : bytes (ofBytes l) = l := by
  simp only [ofBytes, bytes, List.map_map]
  rw [List.map_congr_left (g := id)]
  · simp
  · intro c hc
    have := h c hc
    simp [Nat.mod_eq_of_lt this]
theorem bytes_inj {s t : ByteArray} (h : bytes s = bytes t) : s = t := by
  rw [← ofBytes_bytes s, h, ofBytes_bytes]
/-- Is it a text? -/
def u8 (s : ByteArray) : Bool := Lib.validD s.data.toList
/-- A List's names. -/
def digits (n : Nat) : ByteArray := ⟨(Lib.decDigits n).toArray⟩
/-- A kind as it stands in bytes; 0: it has none. -/
def code (k : Int) : Nat :=
  if k = 1 then 0xff else if k = 2 then 0x0a else if k = 3 then 0x10 else if k = 4 then 0x12 else if k = 5 then 0x02 else if k = 6 then 0x03 else if k = 7 then 0x04
  else if k = 8 then 0x05 else if k = 9 then 0x07 else if k = 10 then 0x08 else if k = 11 then 0x09 else if k = 12 then 0x7f else 0
/-- Are all parts but those that it may have zero? -/
def bare (v : Val) (n s b f l : Bool) : Bool := (n || v.n == 0) && (s || v.s.size == 0) && (b || v.b.isEmpty) && (f || v.f.isEmpty) && (l || v.l.isEmpty)
def nameMay (s : ByteArray) : Bool := decide (0 ∉ bytes s) && decide (s.size ≤ 120) && u8 s
/-- A document round its fields' bytes. -/
def wrap (l : List Nat) : List Nat := leI ((l.length : Int) + 5) 4 ++ (l ++ [0])
/-- The bytes of what is no document. -/
def scalarP (k n : Int) (s : ByteArray) (b : List Nat) (v : Val) : Option (List Nat) :=
  if k = 1 ∨ k = 2 ∨ k = 12 then (if bare v false false false false false then some [] else none)
  else if k = 3 then (if bare v true false false false false && decide (-2147483648 ≤ n) && decide (n < 2147483648) then some (leI n 4) else none)
  else if k = 4 ∨ k = 11 then (if bare v true false false false false && decide (-9223372036854775808 ≤ n) && decide (n < 9223372036854775808) then some (leI n 8) else none)
  else if k = 10 then (if bare v true false false false false && (n == 0 || n == 1) then some (leI n 1) else none)
  else if k = 5 then (if bare v false true false false false && u8 s then some (leI (s.size + 1) 4 ++ (bytes s ++ [0])) else none)
  else if k = 8 then (if bare v false false true false false then some (leI b.length 4 ++ (0 :: b)) else none)
  else if k = 9 then (if bare v false false true false false && b.length == 12 then some b else none)
  else none
def scalar (v : Val) : Option (List Nat) := scalarP v.kind v.n v.s v.b v
/-- Fields one behind another. -/
def row (e : Val → Option (List Nat)) : List (ByteArray × Val) → Option (List Nat)
  | [] => some []
  | (s, v) :: r => match nameMay s, e v, row e r with
    | true, some x, some y => some (code v.kind :: (bytes s ++ (0 :: (x ++ y))))
    | _, _, _ => none
/-- A List's items with their names. -/
def named (l : List Val) : List (ByteArray × Val) := (List.range l.length).zipWith (fun i v => (digits i, v)) l
/-- A value's own bytes, within so many documents at most. -/
def enc : Nat → Val → Option (List Nat)
  | 0, v => scalar v
  | d + 1, v =>
    if v.kind = 6 then (if bare v false false false true false && decide (v.f.map (·.1)).Nodup then (row (enc d) v.f).map wrap else none)
    else if v.kind = 7 then (if bare v false false false false true then (row (enc d) (named v.l)).map wrap else none)
    else scalar v
theorem enc_doc (d : Nat) (v : Val) (hk : v.kind = 6) : enc (d + 1) v = (if bare v false false false true false && decide (v.f.map (·.1)).Nodup then (row (enc d) v.f).map wrap else none) := by rw [enc, if_pos hk]
theorem enc_list (d : Nat) (v : Val) (hk : v.kind = 7) : enc (d + 1) v = (if bare v false false false false true then (row (enc d) (named v.l)).map wrap else none) := by rw [enc, if_neg (by omega), if_pos hk]
theorem enc_other (d : Nat) (v : Val) (h6 : v.kind ≠ 6) (h7 : v.kind ≠ 7) : enc d v = scalar v := by
  cases d with
  | zero => rfl
  | succ d => rw [enc, if_neg h6, if_neg h7]
/-- What reading answers: the first error, or what was read and the bytes behind it. -/
inductive Res (α : Type) where
  | err (e : Nat)
  | ok (x : α) (rest : List Nat)
def Res.bind {α β : Type} : Res α → (α → List Nat → Res β) → Res β
  | .err e, _ => .err e
  | .ok x r, f => f x r
theorem Res.bind_ok {α β : Type} {a : Res α} {f : α → List Nat → Res β} {y : β} {r : List Nat} (h : a.bind f = .ok y r) : ∃ x r', a = .ok x r' ∧ f x r' = .ok y r := by
  cases a with
  | err e => cases h
  | ok x r' => exact ⟨x, r', rfl, h⟩
def take (n : Nat) (l : List Nat) : Res (List Nat) := if l.length < n then .err 2 else .ok (l.take n) (l.drop n)
theorem take_ok {n : Nat} {l x r : List Nat} (h : take n l = .ok x r) : l = x ++ r ∧ x.length = n := by
  unfold take at h
  split at h
  · cases h
  · injection h with h1 h2
    subst h1; subst h2
    exact ⟨(List.take_append_drop n l).symm, by simp; omega⟩
theorem take_app {x r : List Nat} {n : Nat} (h : x.length = n) : take n (x ++ r) = .ok x r := by
  subst h
  unfold take
  rw [if_neg (by simp)]; simp
/-- Up to the first 0. -/
def name (l : List Nat) : Res ByteArray :=
  if l.findIdx (· == 0) = l.length then .err 2
  else if u8 (ofBytes (l.take (l.findIdx (· == 0)))) = false then .err 5
  else if 120 < l.findIdx (· == 0) then .err 15
  else .ok (ofBytes (l.take (l.findIdx (· == 0)))) (l.drop (l.findIdx (· == 0) + 1))
def text (l : List Nat) : Res Val := (take 4 l).bind fun h r => if signed h < 1 then .err 4 else (take (signed h).toNat r).bind fun t r' =>
  if t.getD (t.length - 1) 0 ≠ 0 then .err 4 else if u8 (ofBytes (t.take (t.length - 1))) = false then .err 5 else .ok (.mk 5 0 (ofBytes (t.take (t.length - 1))) [] [] []) r'
def blob (l : List Nat) : Res Val := (take 5 l).bind fun h r => if signed (h.take 4) < 0 ∨ h.getD 4 0 ≠ 0 then .err 4 else (take (signed (h.take 4)).toNat r).bind fun t r' => .ok (.mk 8 0 none_ t [] []) r'
def number (k : Int) (n : Nat) (l : List Nat) : Res Val := (take n l).bind fun h r => .ok (.mk k (signed h) none_ [] [] []) r
def bool (l : List Nat) : Res Val := (take 1 l).bind fun h r => if signed h ≠ 0 ∧ signed h ≠ 1 then .err 4 else .ok (.mk 10 (signed h) none_ [] [] []) r
def float (n : Nat) (l : List Nat) : Res Val := (take n l).bind fun _ _ => .err 8
def ident (l : List Nat) : Res Val := (take 12 l).bind fun h r => .ok (.mk 9 0 none_ h [] []) r
def scalarOf (c : Nat) (l : List Nat) : Res Val :=
  if c = 0x01 then float 8 l else if c = 0x02 then text l else if c = 0x05 then blob l else if c = 0x07 then ident l else if c = 0x08 then bool l
  else if c = 0x09 then number 11 8 l else if c = 0x0a then .ok (.mk 2 0 none_ [] [] []) l else if c = 0x10 then number 3 4 l else if c = 0x12 then number 4 8 l
  else if c = 0x13 then float 16 l else if c = 0x7f then .ok (.mk 12 0 none_ [] [] []) l else if c = 0xff then .ok (.mk 1 0 none_ [] [] []) l else .err 9
def known (c : Nat) : Bool := c == 0x01 || c == 0x02 || c == 0x03 || c == 0x04 || c == 0x05 || c == 0x07 || c == 0x08 || c == 0x09 || c == 0x0a || c == 0x10 || c == 0x12 || c == 0x13 || c == 0x7f || c == 0xff
/-- Fields up to the 0 at their end. -/
def loop (val : Nat → List Nat → Res Val) (list : Bool) : Nat → List (ByteArray × Val) → List Nat → Res (List (ByteArray × Val))
  | 0, _, _ => .err 2
  | _ + 1, _, [] => .err 2
  | g + 1, acc, c :: r =>
    if c = 0 then .ok acc r
    else if known c = false then .err 9
    else (name r).bind fun s r2 =>
      if list = true ∧ s ≠ digits acc.length then .err 4
      else if acc.any (fun p => decide (p.1 = s)) = true then .err 6
      else (val c r2).bind fun v r3 => loop val list g (acc ++ [(s, v)]) r3
def shut (list : Bool) (fs : List (ByteArray × Val)) : Val := if list then .mk 7 0 none_ [] [] (fs.map (·.2)) else .mk 6 0 none_ [] fs []
def valOf (d3 d4 : List Nat → Res Val) (c : Nat) (l : List Nat) : Res Val := if c = 0x03 then d3 l else if c = 0x04 then d4 l else scalarOf c l
/-- A document, within so many at most; the outer one's length is known. -/
def doc : Nat → Bool → Option Nat → List Nat → Res Val
  | 0, _, _, _ => .err 7
  | d + 1, list, outer, l => (take 4 l).bind fun h r =>
    if signed h < 5 ∨ (∃ n, outer = some n ∧ signed h ≠ n) then .err 4
    else (loop (valOf (doc d false none) (doc d true none)) list (r.length + 1) [] r).bind fun fs r' =>
      if (l.length : Int) - r'.length ≠ signed h then .err 4 else .ok (shut list fs) r'
/-- Decode: the error, or the document. -/
def decode (b : List Nat) : Nat × Val := if 65536 < b.length then (3, zero) else match doc 32 false (some b.length) b with
  | .err e => (e, zero)
  | .ok v _ => (0, v)
end Bson
end
section
namespace Go.Proofs.YtdihelpimpkfoaaDoor
open Go.ChangeShapes Go.WideShapes Go.ChangeAt Go.RowKit
section
variable {H : Type} {enc : TypeId × Value → H} {P : Program}
/-- All arguments read behind the call as they did, where nothing old has turned. -/
theorem args_stay (hl : laidOutB P = true) {W W' : World} (hb : Below W.heap.size W W') : ∀ (ts : List TypeId) (vs : List Value) (ds : List (DataW H)) (ps : List MemPlace),
    (ts.all fun t => P.readableRec t && decide (t < P.types.size)) = true → DataW.TrodAll enc P W 0 (fun _ => true) true ts vs ds ps → (∀ x ∈ ps, x.block < W.heap.size) →
    DataW.TrodAll enc P W' 0 (fun b => decide (b < W.heap.size)) true ts vs ds ps
  | [], [], [], _, _, h, _ => h
  | t :: ts, v :: vs, d :: ds, ps, ht, ⟨p, q, h1, h2, e⟩, hlt => by
    simp only [List.all_cons, Bool.and_eq_true, decide_eq_true_eq] at ht
    refine ⟨p, q, Below.trod hl ht.1.1 ht.1.2 h1 hb (fun x hx => hlt x (by rw [e]; simp [hx])), args_stay hl hb ts vs ds q ht.2 h2 (fun x hx => hlt x (by rw [e]; simp [hx])), e⟩
  | [], [], _ :: _, _, _, h, _ => h.elim
  | [], _ :: _, [], _, _, h, _ => h.elim
  | [], _ :: _, _ :: _, _, _, h, _ => h.elim
  | _ :: _, [], [], _, _, h, _ => h.elim
  | _ :: _, [], _ :: _, _, _, h, _ => h.elim
  | _ :: _, _ :: _, [], _, _, h, _ => h.elim
/-- THE ROW's WORD OF A LAW. -/
theorem law_end {f : Func} {s : ChangeSpec} {W W' : World} {args : Array Value} {ds gs : List (DataW H)} {before : List MemPlace} (tb : TypeId) (hl : laidOutB P = true) (hbool : P.underlying tb = some .bool)
    (hts : (f.params.toList.all fun t => P.readableRec t && decide (t < P.types.size)) = true) (hres : f.resultTypes = #[tb]) (hv : s.vars = [])
    (hW : DataW.Whole enc P f.params.toList s.vars false W args.toList ds gs before) (hspec : s.fn H (ds ++ gs) = { results := [.lit (.bool true)], args := ds }) (hb : Below W.heap.size W W') :
    s.post enc P f false true false false W args (.bool true) W' := by
  have hW' := hW
  obtain ⟨p, q, hA, hV, rfl, _, _⟩ := hW
  have hlt : ∀ x ∈ p, x.block < W.heap.size := fun x hx => hW'.lt x (by simp [hx])
  refine ⟨ds, gs, p ++ q, [], p, [], hW', ?_, ?_, ?_, hb.frame _, fun h => by cases h⟩
  · rw [hspec, hres]
    exact trodAll_cons_mk (shut_bool hbool true) trodAll_mk0
  · rw [hspec]
    exact args_stay hl hb _ _ _ _ hts hA hlt
  · rw [hspec, hv]; rfl
end
theorem u8_wf {n : Int} (h : (Lit.int .u8 n).wf = true) : 0 ≤ n ∧ n < 256 := by
  have h1 : IntKind.u8.min = 0 := rfl
  have h2 : IntKind.u8.max = 255 := rfl
  simp only [Lit.wf, Bool.and_eq_true, decide_eq_true_eq] at h
  omega
theorem own : ownKnob Tryd.prog.godebug = none := by kernel_rfl
theorem laidOut : laidOutB Tryd.prog = true := by kernel_rfl
end Go.Proofs.YtdihelpimpkfoaaDoor
end
