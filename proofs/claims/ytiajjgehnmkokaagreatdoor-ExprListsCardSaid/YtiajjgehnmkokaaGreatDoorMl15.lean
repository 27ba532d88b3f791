/- PathParse, ExprMath, ExprParseOwn, PathRefMay, ExprLeaf, ExprMem, ExprTypeName, PathRefParse, ExprAll, RegCall. -/
import Derived.Laws.DeepStrings4
import Derived.Test.YtiajjgehnmkokaaGreatDoorMl14
import Derived.Test.YtiajjgehnmkokaaGreatDoorMl1
import Derived.Test.YtiajjgehnmkokaaGreatDoorMl4
import Derived.Test.YtiajjgehnmkokaaGreatDoorMl3
import Derived.Test.YtiajjgehnmkokaaGreatDoorMl2
import Derived.Test.YtiajjgehnmkokaaGreatDoorMl9
set_option maxRecDepth 100000
set_option maxHeartbeats 20000000
section
namespace Go.Proofs.YtiajjgehnmkokaaGreatDoor
open Go.RowKit
open Seal
open Path
def strSize : Value → Nat
 | .string s => s.size
 | _ => 0
def boolOf : Value → Bool
 | .bool b => b
 | _ => false
namespace Path
def names (l : List (List UInt8)) : List ByteArray := l.map fun x => ⟨x.toArray⟩
theorem names_length (l : List (List UInt8)) : (names l).length = l.length := by simp [names]
theorem strs_names (l : List (List UInt8)) : strs l = (names l).map .string := by simp [strs, names]
def PRest (l : List UInt8) (done : List (List UInt8)) (rest : ByteArray) (more : Bool) : Prop := split l = done ++ (if more then split rest.data.toList else []) ∧ done.all may = true ∧ done.length ≤ 16
theorem PRest.full {l : List UInt8} {done : List (List UInt8)} {rest : ByteArray} (h : PRest l done rest true) (h16 : done.length = 16) : parse l = none := by
 unfold parse
 rw [if_neg]
 rintro ⟨_, h2⟩
 have h3 := h.1
 simp only [if_true] at h3
 have := List.length_pos_iff.2 (split_ne rest.data.toList)
 rw [h3, List.length_append] at h2
 omega
theorem PRest.bad {l : List UInt8} {done more : List (List UInt8)} {x : List UInt8} (h : split l = done ++ x :: more) (hx : may x = false) : parse l = none := by
 unfold parse
 rw [if_neg]
 rintro ⟨h1, _⟩
 rw [h] at h1
 simp [hx] at h1
theorem PRest.done {l : List UInt8} {done : List (List UInt8)} {rest : ByteArray} (h : PRest l done rest false) : parse l = some done := by
 obtain ⟨h1, h2, h3⟩ := h
 simp only [Bool.false_eq_true, if_false, List.append_nil] at h1
 unfold parse
 rw [h1, if_pos ⟨h2, h3⟩]
end Path
theorem infoS : (Tryz.prog.info? 9).map (fun i => (i.zero, i.size, i.bytes)) = some (some (.string ⟨#[]⟩), 1, 16) := by kernel_rfl
def NamesAt (w : World) (v : Value) (p : List ByteArray) : Prop := ∃ a c, v = .slice a p.length c ∧ p.length ≤ c ∧ c ≤ 9223372036854775807 ∧ StrsIn w a p
theorem one_new (w : World) (c : Value) (t : TypeId) : ∀ j u, ([c] : List Value)[j]? = some u → (w.alloc (.cells #[c] t)).cell? (Addr.add ⟨w.heap.size, 0, none⟩ j) = some u := by
 intro j u hj
 rw [Addr.add_mid, Nat.zero_add, cell_of_row _ _ j _ _ _ (heap_alloc_new w _)]
 simpa using hj
end Go.Proofs.YtiajjgehnmkokaaGreatDoor
end
section
namespace Go.Proofs.YtiajjgehnmkokaaGreatDoor
open Bson (Val)
namespace Expr
abbrev Out := Int × Val
def leafV (k n : Int) : Val := .mk k n ⟨#[]⟩ [] [] []
def boolV (b : Bool) : Val := leafV 10 (if b then 1 else 0)
def textV (s : ByteArray) : Val := .mk 5 0 s [] [] []
def truth (x : Val) : Bool := !noneB x.kind && !((x.kind == 3 || x.kind == 4 || x.kind == 10) && x.n == 0)
def numO (r : Int × Int × Int) : Out := (r.2.2, leafV r.1 r.2.1)
def bad (e : Int) : Out := (e, Bson.zero)
def allO : List Out → Int × List Val
 | [] => (0, [])
 | x :: r => if x.1 = 0 then (if (allO r).1 = 0 then (0, x.2 :: (allO r).2) else ((allO r).1, [])) else (x.1, [])
def decideO (b : Bool) : List Out → Out
 | [] => (0, boolV (!b))
 | x :: r => if x.1 = 0 then (if truth x.2 = b then (0, boolV b) else decideO b r) else bad x.1
def two (o : Int → Int → Int × Int) (x y : Val) : Out := numO (Num.reck (o x.n y.n) x.kind y.kind)
def foldN (o : Int → Int → Int × Int) : Val → List Val → Out
 | a, [] => (0, a)
 | a, x :: r => if (two o a x).1 = 0 then foldN o (two o a x).2 r else bad (two o a x).1
def itemV (l y : Val) : Out :=
 if noneB l.kind = true ∨ noneB y.kind = true then (0, leafV 2 0)
 else if l.kind ≠ 7 ∨ numB y.kind = false then bad 12
 else (0, if y.n < 0 then (if 0 ≤ y.n + l.l.length then l.l.getD (y.n + l.l.length).toNat Bson.zero else Bson.zero) else l.l.getD y.n.toNat Bson.zero)
def joinS : List Val → ByteArray
 | [] => ⟨#[]⟩
 | x :: r => x.s ++ joinS r
def concatV (l : List Val) : Out :=
 if (l.any fun x => noneB x.kind) = true then (0, leafV 2 0)
 else if (l.any fun x => !(x.kind == 5)) = true then bad 12
 else if 65536 < (l.map fun x => x.s.size).sum then bad 3
 else (0, textV (joinS l))
def kindName (k : Int) : ByteArray :=
 if k = 0 then ⟨#[109, 105, 115, 115, 105, 110, 103]⟩
 else if k = 1 then ⟨#[109, 105, 110, 75, 101, 121]⟩
 else if k = 2 then ⟨#[110, 117, 108, 108]⟩
 else if k = 3 then ⟨#[105, 110, 116]⟩
 else if k = 4 then ⟨#[108, 111, 110, 103]⟩
 else if k = 5 then ⟨#[115, 116, 114, 105, 110, 103]⟩
 else if k = 6 then ⟨#[111, 98, 106, 101, 99, 116]⟩
 else if k = 7 then ⟨#[97, 114, 114, 97, 121]⟩
 else if k = 8 then ⟨#[98, 105, 110, 68, 97, 116, 97]⟩
 else if k = 9 then ⟨#[111, 98, 106, 101, 99, 116, 73, 100]⟩
 else if k = 10 then ⟨#[98, 111, 111, 108]⟩
 else if k = 11 then ⟨#[100, 97, 116, 101]⟩
 else if k = 12 then ⟨#[109, 97, 120, 75, 101, 121]⟩
 else ⟨#[]⟩
inductive Op where
 | add | multiply | subtract | divide | mod_ | abs | eq_ | ne_ | gt | gte | lt_ | lte | cmp | and_ | or_ | not_ | cond | ifNull | concat | size_ | arrayElemAt | type_
 deriving DecidableEq
def opName : Op → ByteArray
 | .add => ⟨#[36, 97, 100, 100]⟩
 | .multiply => ⟨#[36, 109, 117, 108, 116, 105, 112, 108, 121]⟩
 | .subtract => ⟨#[36, 115, 117, 98, 116, 114, 97, 99, 116]⟩
 | .divide => ⟨#[36, 100, 105, 118, 105, 100, 101]⟩
 | .mod_ => ⟨#[36, 109, 111, 100]⟩
 | .abs => ⟨#[36, 97, 98, 115]⟩
 | .eq_ => ⟨#[36, 101, 113]⟩
 | .ne_ => ⟨#[36, 110, 101]⟩
 | .gt => ⟨#[36, 103, 116]⟩
 | .gte => ⟨#[36, 103, 116, 101]⟩
 | .lt_ => ⟨#[36, 108, 116]⟩
 | .lte => ⟨#[36, 108, 116, 101]⟩
 | .cmp => ⟨#[36, 99, 109, 112]⟩
 | .and_ => ⟨#[36, 97, 110, 100]⟩
 | .or_ => ⟨#[36, 111, 114]⟩
 | .not_ => ⟨#[36, 110, 111, 116]⟩
 | .cond => ⟨#[36, 99, 111, 110, 100]⟩
 | .ifNull => ⟨#[36, 105, 102, 78, 117, 108, 108]⟩
 | .concat => ⟨#[36, 99, 111, 110, 99, 97, 116]⟩
 | .size_ => ⟨#[36, 115, 105, 122, 101]⟩
 | .arrayElemAt => ⟨#[36, 97, 114, 114, 97, 121, 69, 108, 101, 109, 65, 116]⟩
 | .type_ => ⟨#[36, 116, 121, 112, 101]⟩
def opsAll : List Op := [.add, .multiply, .subtract, .divide, .mod_, .abs, .eq_, .ne_, .gt, .gte, .lt_, .lte, .cmp, .and_, .or_, .not_, .cond, .ifNull, .concat, .size_, .arrayElemAt, .type_]
def opOf (s : ByteArray) : Option Op := opsAll.find? fun o => decide (opName o = s)
def arity : Op → Option Nat
 | .add => none
 | .multiply => none
 | .subtract => some 2
 | .divide => some 2
 | .mod_ => some 2
 | .abs => some 1
 | .eq_ => some 2
 | .ne_ => some 2
 | .gt => some 2
 | .gte => some 2
 | .lt_ => some 2
 | .lte => some 2
 | .cmp => some 2
 | .and_ => none
 | .or_ => none
 | .not_ => some 1
 | .cond => some 3
 | .ifNull => some 2
 | .concat => none
 | .size_ => some 1
 | .arrayElemAt => some 2
 | .type_ => some 1
def dollar (s : ByteArray) : Bool := s.data.toList.head? == some 36
def literal : ByteArray := ⟨#[36, 108, 105, 116, 101, 114, 97, 108]⟩
def pathOf (s : ByteArray) : Option (List ByteArray) := (Path.parse (s.data.toList.drop 1)).map Path.names
def args (a : Val) : List Val := if a.kind = 7 then a.l else [a]
def fits (o : Op) (n : Nat) : Bool := match arity o with | some k => n == k | none => true
def outAt (l : List Out) (i : Nat) : Out := l.getD i (bad 0)
def one (l : List Out) (f : Val → Out) : Out := if (outAt l 0).1 = 0 then f (outAt l 0).2 else bad (outAt l 0).1
def all (l : List Out) (f : List Val → Out) : Out := if (allO l).1 = 0 then f (allO l).2 else bad (allO l).1
def pairV (f : Val → Val → Out) (l : List Val) : Out := f (l.getD 0 Bson.zero) (l.getD 1 Bson.zero)
def place (c : Nat) (l : List Val) : Int := Order.cmp c (l.getD 0 Bson.zero) (l.getD 1 Bson.zero)
def apply (c : Nat) (o : Op) (l : List Out) : Out :=
 match o with
 | .add => all l (foldN Num.sumR (leafV 3 0))
 | .multiply => all l (foldN Num.mulR (leafV 3 1))
 | .subtract => all l (pairV (two Num.difR))
 | .divide => all l (pairV (two Num.quoR))
 | .mod_ => all l (pairV (two Num.remR))
 | .abs => one l fun x => numO (Num.reck (Num.absR x.n) x.kind x.kind)
 | .eq_ => all l fun l => (0, boolV (decide (place c l = 0)))
 | .ne_ => all l fun l => (0, boolV (decide (place c l ≠ 0)))
 | .gt => all l fun l => (0, boolV (decide (place c l > 0)))
 | .gte => all l fun l => (0, boolV (decide (place c l ≥ 0)))
 | .lt_ => all l fun l => (0, boolV (decide (place c l < 0)))
 | .lte => all l fun l => (0, boolV (decide (place c l ≤ 0)))
 | .cmp => all l fun l => (0, leafV 3 (place c l))
 | .and_ => decideO false l
 | .or_ => decideO true l
 | .not_ => one l fun x => (0, boolV (!truth x))
 | .cond => one l fun x => if truth x = true then outAt l 1 else outAt l 2
 | .ifNull => one l fun x => if noneB x.kind = true then outAt l 1 else (0, x)
 | .concat => all l concatV
 | .size_ => one l fun x => if x.kind = 7 then (0, leafV 3 x.l.length) else bad 12
 | .arrayElemAt => all l (pairV itemV)
 | .type_ => one l fun x => (0, textV (kindName x.kind))
theorem apply_add (c : Nat) (l : List Out) : apply c .add l = all l (foldN Num.sumR (leafV 3 0)) := rfl
theorem apply_multiply (c : Nat) (l : List Out) : apply c .multiply l = all l (foldN Num.mulR (leafV 3 1)) := rfl
theorem apply_subtract (c : Nat) (l : List Out) : apply c .subtract l = all l (pairV (two Num.difR)) := rfl
theorem apply_divide (c : Nat) (l : List Out) : apply c .divide l = all l (pairV (two Num.quoR)) := rfl
theorem apply_mod_ (c : Nat) (l : List Out) : apply c .mod_ l = all l (pairV (two Num.remR)) := rfl
theorem apply_abs (c : Nat) (l : List Out) : apply c .abs l = one l fun x => numO (Num.reck (Num.absR x.n) x.kind x.kind) := rfl
theorem apply_eq_ (c : Nat) (l : List Out) : apply c .eq_ l = all l fun l => (0, boolV (decide (place c l = 0))) := rfl
theorem apply_ne_ (c : Nat) (l : List Out) : apply c .ne_ l = all l fun l => (0, boolV (decide (place c l ≠ 0))) := rfl
theorem apply_gt (c : Nat) (l : List Out) : apply c .gt l = all l fun l => (0, boolV (decide (place c l > 0))) := rfl
theorem apply_gte (c : Nat) (l : List Out) : apply c .gte l = all l fun l => (0, boolV (decide (place c l ≥ 0))) := rfl
theorem apply_lt_ (c : Nat) (l : List Out) : apply c .lt_ l = all l fun l => (0, boolV (decide (place c l < 0))) := rfl
theorem apply_lte (c : Nat) (l : List Out) : apply c .lte l = all l fun l => (0, boolV (decide (place c l ≤ 0))) := rfl
theorem apply_cmp (c : Nat) (l : List Out) : apply c .cmp l = all l fun l => (0, leafV 3 (place c l)) := rfl
theorem apply_and_ (c : Nat) (l : List Out) : apply c .and_ l = decideO false l := rfl
theorem apply_or_ (c : Nat) (l : List Out) : apply c .or_ l = decideO true l := rfl
theorem apply_not_ (c : Nat) (l : List Out) : apply c .not_ l = one l fun x => (0, boolV (!truth x)) := rfl
theorem apply_cond (c : Nat) (l : List Out) : apply c .cond l = one l fun x => if truth x = true then outAt l 1 else outAt l 2 := rfl
theorem apply_ifNull (c : Nat) (l : List Out) : apply c .ifNull l = one l fun x => if noneB x.kind = true then outAt l 1 else (0, x) := rfl
theorem apply_concat (c : Nat) (l : List Out) : apply c .concat l = all l concatV := rfl
theorem apply_size_ (c : Nat) (l : List Out) : apply c .size_ l = one l fun x => if x.kind = 7 then (0, leafV 3 x.l.length) else bad 12 := rfl
theorem apply_type_ (c : Nat) (l : List Out) : apply c .type_ l = one l fun x => (0, textV (kindName x.kind)) := rfl
def docFO : List (ByteArray × Out) → Int × List (ByteArray × Val)
 | [] => (0, [])
 | p :: r => if p.2.1 = 0 then (if (docFO r).1 = 0 then (0, if p.2.2.kind = 0 then (docFO r).2 else (p.1, p.2.2) :: (docFO r).2) else ((docFO r).1, [])) else (p.2.1, [])
def docO (r : Int × List (ByteArray × Val)) : Out := if r.1 = 0 then (0, .mk 6 0 ⟨#[]⟩ [] r.2 []) else bad r.1
def nullIf (x : Val) : Val := if x.kind = 0 then leafV 2 0 else x
def rowO (r : Int × List Val) : Out := if r.1 = 0 then (0, .mk 7 0 ⟨#[]⟩ [] [] (r.2.map nullIf)) else bad r.1
def evalV (n c : Nat) (d : Val) : Nat → Val → Out
 | 0, x => (0, x)
 | h + 1, x =>
  if x.kind = 5 then (if dollar x.s = true then (0, Bson.reach n d ((pathOf x.s).getD [])) else (0, x))
  else if x.kind = 7 then rowO (allO (x.l.map (evalV n c d h)))
  else if x.kind = 6 then
   (match x.f with
   | [(s, a)] => if dollar s = true then (if s = literal then (0, a) else match opOf s with | some o => apply c o ((args a).map (evalV n c d h)) | none => bad 13) else docO (docFO [(s, evalV n c d h a)])
   | f => docO (docFO (f.map fun p => (p.1, evalV n c d h p.2))))
  else (0, x)
def parseAll (ps : Val → Int) : List Val → Int
 | [] => 0
 | x :: r => if ps x = 0 then parseAll ps r else ps x
def parseV : Nat → Val → Int
 | 0, _ => 0
 | h + 1, x =>
  if x.kind ≤ 0 ∨ 12 < x.kind then 12
  else if x.kind = 5 then (if dollar x.s = true then (if (pathOf x.s).isSome = true then 0 else 15) else 0)
  else if x.kind = 7 then parseAll (parseV h) x.l
  else if x.kind = 6 then
   (if (x.f.any fun p => dollar p.1) = true then
    (match x.f with
    | [(s, a)] => if s = literal then 0 else match opOf s with | some o => if fits o (args a).length = true then parseAll (parseV h) (args a) else 13 | none => 13
    | _ => 13)
   else parseAll (parseV h) (x.f.map (·.2)))
  else 0
end Expr
end Go.Proofs.YtiajjgehnmkokaaGreatDoor
end
section
namespace Go.Proofs.YtiajjgehnmkokaaGreatDoor
open Go.RowKit
open Seal
open Path
def ParseOwnP (l : List UInt8) (w : World) (e : Ending) (w' : World) : Prop :=
 ∃ v b, e = .returned (.tuple #[v, .bool b]) ∧ Below w.heap.size w w' ∧ (∀ p, parse l = some p → b = true ∧ w'.ownsRow w.heap.size 9 1 v p.length (strs p)) ∧ (parse l = none → b = false ∧ v = .slice none 0 0)
theorem ParseOwn_any (s : ByteArray) (w : World) (hs : s.size ≤ 4294967280) (hG : Ground w) : Calls Tryz.prog 62 #[.string s] w (ParseOwnP s.data.toList w) := by
 obtain ⟨i0, hi, hz0, hz1, hz2⟩ := info_parts infoS
 have HG := Lib.hid hG
 clear hG
 go_enter Tryz.func62, Tryz.ntmps62
 go_wp2_with fail
 go_loopw [0, 4, 5] (fun st v mo wr => ∃ (done : List (List UInt8)) (rest : ByteArray) (m : Bool) (v' : Value), st = .string rest ∧ mo = .bool m ∧ v' = v ∧ rest.size ≤ s.size ∧ Hid (PRest s.data.toList done rest m) ∧ Hid (wr.ownsRow w.heap.size 9 1 v' done.length (strs done)) ∧ Hid (Below w.heap.size w wr)) (fun st _ mo _ => if boolOf mo then strSize st + 1 else 0)
 case atStart => exact ⟨[], s, true, _, rfl, rfl, rfl, Nat.le_refl _, ⟨rfl, rfl, by simp⟩, World.ownsRow_nil _ _ _ _, Below.refl _ _⟩
 case round =>
  obtain ⟨done, rest, m, v, rfl, rfl, rfl, hrs, HR, HO, HB⟩ := hrel
  obtain ⟨a1, cc1, hv1⟩ : ∃ a c, v = .slice a done.length c := owns_shape HO.out
  obtain ⟨dn, hdn⟩ : ∃ n, n = done.length := ⟨_, rfl⟩
  rw [← hdn] at hv1
  subst hv1
  have HDN := Lib.hid hdn
  have hd16 : dn ≤ 16 := by rw [hdn]; exact HR.out.2.2
  clear hdn
  cases m with
  | false =>
   have HP := Lib.hid HR.out.done
   go_wp2_with fail
   refine bodyPost_ret (v := .tuple #[.slice a1 dn cc1, .bool true]) (by simp [results, Tryz.results62, go_sem]) rfl ?_
   refine ⟨_, true, rfl, HB.out, fun p hp => ⟨rfl, ?_⟩, fun hp => by rw [HP.out] at hp; cases hp⟩
   rw [HP.out] at hp
   obtain rfl := Option.some.inj hp
   exact HO.out
  | true =>
   have CC : Hid (∀ wx, Ground wx → Calls Tryz.prog 75 #[.string rest, .string ⟨#[46]⟩] wx fun e w' => e = .returned (.tuple #[.string ⟨(Lib.cut rest.data.toList [46]).1.toArray⟩, .string ⟨(Lib.cut rest.data.toList [46]).2.1.toArray⟩, .bool (Lib.cut rest.data.toList [46]).2.2]) ∧ ∃ n, w' = wx.drewN n) := fun wx hg => by
    obtain ⟨mm, hm⟩ := hg.most
    exact Tryz.strings_Cut rest ⟨#[46]⟩ mm wx (by omega) hm
   have HGr : Hid (Ground wr) := HG.out.keep HB.out
   obtain ⟨x, y, mo2, hcut, hsp, hys⟩ : ∃ x y mo2, Lib.cut rest.data.toList [46] = (x, y, mo2) ∧ split rest.data.toList = x :: (if mo2 then split y else []) ∧ x.length ≤ rest.size ∧ y.length ≤ rest.size ∧ (mo2 = true → y.length < rest.size) := by
    have hl := len_list rest
    rcases cut_dot rest.data.toList with ⟨h1, h2⟩ | ⟨a, b, h0, h1, h2⟩
    ·exact ⟨_, _, false, h2, split_free _ h1, by omega, by simp, nofun⟩
    ·exact ⟨a, b, true, h2, by rw [h0, split_cut a b h1]; rfl, by rw [← hl, h0]; simp, by rw [← hl, h0]; simp; omega, fun _ => by rw [← hl, h0]; simp; omega⟩
   have hall : split s.data.toList = done ++ x :: (if mo2 then split y else []) := by have := HR.out.1; rw [if_pos rfl, hsp] at this; exact this
   have HALL := Lib.hid hall
   have HYS := Lib.hid hys
   rw [hcut] at CC
   clear hcut hsp hall hys
   go_wp2_with fail
   refine (CC.out _ HGr.out).mono ?_
   rintro e w1 ⟨rfl, n1, rfl⟩
   have HB1 : Hid (Below w.heap.size w (wr.drewN n1)) := Go.below_drewN HB.out n1
   have HG1 : Hid (Ground (wr.drewN n1)) := HG.out.keep HB1.out
   have HO1 : Hid ((wr.drewN n1).ownsRow w.heap.size 9 1 (.slice a1 dn cc1) dn (strs done)) := by have := HO.out; rw [← HDN.out] at this; exact this
   clear HB HO HGr CC
   generalize wr.drewN n1 = w1 at *
   by_cases h16 : dn = 16
   ·subst h16
    have HP : Hid (parse s.data.toList = none) := HR.out.full HDN.out.symm
    go_wp2_with fail
    refine bodyPost_ret (v := .tuple #[.slice none 0 0, .bool false]) (by simp [results, Tryz.results62, go_sem]) rfl ?_
    exact ⟨_, false, rfl, HB1.out, fun p hp => (by rw [HP.out] at hp; cases hp), fun _ => ⟨rfl, rfl⟩⟩
   ·have CM := Lib.hid (pathMay_any ⟨x.toArray⟩ w1 (by have := HYS.out.1; show x.toArray.size ≤ _; simp; omega) HG1.out)
    have hmx : (⟨x.toArray⟩ : ByteArray).data.toList = x := rfl
    rw [hmx] at CM
    clear hmx
    obtain ⟨mb, hmb⟩ : ∃ mb, mb = may x := ⟨_, rfl⟩
    rw [← hmb] at CM
    have HMB := Lib.hid hmb
    clear hmb
    cases mb with
    | false =>
     have HP : Hid (parse s.data.toList = none) := PRest.bad HALL.out HMB.out.symm
     go_wp2_with fail
     refine CM.out.mono ?_
     rintro e w2 ⟨rfl, hb2⟩
     have HB2 : Hid (Below w.heap.size w w2) := HB1.out.trans (hb2.mono HB1.out.size)
     clear hb2
     go_wp2_with fail
     refine bodyPost_ret (v := .tuple #[.slice none 0 0, .bool false]) (by simp [results, Tryz.results62, go_sem]) rfl ?_
     exact ⟨_, false, rfl, HB2.out, fun p hp => (by rw [HP.out] at hp; cases hp), fun _ => ⟨rfl, rfl⟩⟩
    | true =>
     have HR2 : Hid (PRest s.data.toList (done ++ [x]) ⟨y.toArray⟩ mo2) := ⟨by rw [HALL.out, List.append_assoc]; rfl, by rw [List.all_append, HR.out.2.1]; simp [HMB.out.symm], by rw [List.length_append, ← HDN.out]; simp; omega⟩
     have hyz : Hid ((⟨y.toArray⟩ : ByteArray).size ≤ s.size ∧ (mo2 = true → (⟨y.toArray⟩ : ByteArray).size < rest.size)) := by
      have e : (⟨y.toArray⟩ : ByteArray).size = y.length := by show y.toArray.size = _; simp
      rw [e]; exact ⟨Nat.le_trans HYS.out.2.1 hrs, HYS.out.2.2⟩
     go_wp2_with fail
     refine CM.out.mono ?_
     rintro e w2 ⟨rfl, hb2⟩
     have HB2 : Hid (Below w.heap.size w (w2.alloc (.cells #[.string ⟨x.toArray⟩] 9))) := (HB1.out.trans (hb2.mono HB1.out.size)).alloc (by have := (HB1.out.trans (hb2.mono HB1.out.size)).size; omega) _
     have HO2 : Hid ((w2.alloc (.cells #[.string ⟨x.toArray⟩] 9)).ownsRow w.heap.size 9 1 (.slice a1 dn cc1) dn (strs done)) := owns_below (owns_below HO1.out hb2) ((Below.refl _ _).alloc (Nat.le_refl _) _)
     have HNW : Hid (∀ j u, ([.string ⟨x.toArray⟩] : List Value)[j]? = some u → (w2.alloc (.cells #[.string ⟨x.toArray⟩] 9)).cell? (Addr.add ⟨w2.heap.size, 0, none⟩ j) = some u) := one_new w2 _ _
     have HSZ := Lib.hid HB2.out.size
     clear hb2 HB1 HG1 HO1 CM
     go_wp2_with (at_builtin; refine wpList_append_sz _ rfl (.tmp 22) (.tmp 24) 42 rfl w.heap.size 9 i0 (.string ⟨#[]⟩) 1 16 Tryz.underlying42 hi hz0 hz1 hz2 rfl (.slice a1 dn cc1) dn (strs done) rfl HO2.out ⟨w2.heap.size, 0, none⟩ 1 1 [.string ⟨x.toArray⟩] rfl rfl (by decide) (by decide) HNW.out (by intro u hu; simp at hu; subst hu; rfl) (by unfold maxLen; omega) (by omega) HSZ.out ?_)
     intro v5 w5 hown5 hlies5
     have hw5 := Wrote.of_lies hlies5
     have HB5 : Hid (Below w.heap.size w w5) := HB2.out.grown hw5.1 HSZ.out (fun j hj => (owns_block HO2.out hj).1)
     have HO5 : Hid (w5.ownsRow w.heap.size 9 1 v5 (done ++ [x]).length (strs (done ++ [x]))) := by
      rw [strs_append, List.length_append, ← HDN.out]; exact hown5
     clear hown5 hlies5 hw5 HO2 HNW HSZ HB2
     go_wp2_with fail
     go_roundw
     case rel => exact ⟨done ++ [x], _, mo2, v5, rfl, rfl, rfl, hyz.out.1, HR2, HO5, HB5⟩
     case measure =>
      show (if boolOf (.bool mo2) = true then strSize (.string ⟨y.toArray⟩) + 1 else 0) < (if boolOf (.bool true) = true then strSize (.string rest) + 1 else 0)
      simp only [boolOf, strSize, if_true]
      cases mo2 with
      | false => simp
      | true => have := hyz.out.2 rfl; simp only [if_true]; omega
end Go.Proofs.YtiajjgehnmkokaaGreatDoor
end
section
namespace Go.Proofs.YtiajjgehnmkokaaGreatDoor
open Go.RowKit
open Seal
open Path
namespace Path
def nameMay (l : List UInt8) : Bool := decide (0 ∉ l) && decide (l.length ≤ 120) && Lib.validD l
theorem mem_byte (s : ByteArray) (c : UInt8) (k : Nat) (hk : k < s.size) (h : byte s k = c.toNat) : c ∈ s.data.toList := by
 have hl := len_list s
 have e : s.data.toList[k]'(by omega) = c := by
  apply UInt8.toNat_inj.1
  unfold byte at h
  rw [List.getD_eq_getElem?_getD, List.getElem?_eq_getElem (by omega)] at h
  exact h
 rw [← e]
 exact List.getElem_mem _
theorem not_mem_byte (s : ByteArray) (c : UInt8) (h : ∀ k, k < s.size → byte s k ≠ c.toNat) : c ∉ s.data.toList := by
 intro hm
 obtain ⟨k, hk, e⟩ := List.getElem_of_mem hm
 rw [len_list] at hk
 refine h k hk ?_
 unfold byte
 rw [List.getD_eq_getElem?_getD, List.getElem?_eq_getElem (by rw [len_list]; exact hk), e]
 rfl
end Path
theorem nameMay_any (s : ByteArray) (w : World) (hs : s.size ≤ 140737488355328) :
  Calls Tryz.prog 50 #[.string s] w fun e w' => e = .returned (.bool (nameMay s.data.toList)) ∧ Below w.heap.size w w' := by
 have HRB := Lib.hid (run_byte s)
 have CU := Lib.hid (fun wx => utf8ref_any s wx hs)
 have hl := len_list s
 go_enter Tryz.func50, Tryz.ntmps50
 go_wp2_with fail
 go_loopw [3] (fun i wr => ∃ k : Nat, i = .int .i64 k ∧ k ≤ s.size ∧ Hid (∀ j, j < k → byte s j ≠ 0) ∧ Hid (Below w.heap.size w wr)) (fun i _ => s.size - (intOf i).toNat)
 case atStart => exact ⟨0, rfl, Nat.zero_le _, fun j hj => by omega, Below.refl _ _⟩
 case round =>
  obtain ⟨k, rfl, hk, HZ, HB⟩ := hrel
  by_cases hlt : k < s.size
  ·have i0 := HRB.out k hlt
   obtain ⟨c, hc⟩ : ∃ c, c = byte s k := ⟨_, rfl⟩
   rw [← hc] at i0
   have hc256 : c < 256 := by rw [hc]; exact byte_lt s k
   have HC := Lib.hid hc
   clear hc
   by_cases h0 : c = 0
   ·subst h0
    have hres : nameMay s.data.toList = false := by
     have := mem_byte s 0 k hlt (by rw [← HC.out]; rfl)
     unfold nameMay; rw [decide_eq_false (by simpa using this)]; rfl
    have HRES := Lib.hid hres
    clear hres
    have i1 : ∀ W, (Instr.index 9 (.string s) (.int .i64 (k : Int))).run Tryz.prog W = .ok (.int .u8 0) W := i0
    go_wp2_with fail
    go_ret
    exact ⟨by rw [HRES.out]; rfl, HB.out⟩
   ·have hcb : ((c : Int) == 0) = false := by simpa using h0
    have HZ2 : Hid (∀ j, j < k + 1 → byte s j ≠ 0) := by
     intro j hj
     rcases Nat.lt_or_ge j k with h | h
     ·exact HZ.out j h
     ·obtain rfl : j = k := by omega
      rw [← HC.out]; exact h0
    go_wp2_with fail
    go_roundw
    case rel => exact ⟨k + 1, by go_num, by omega, HZ2, HB⟩
    case measure => simp [intOf]; omega
  ·have hkk : k = s.size := by omega
   have h0 : (0 : UInt8) ∉ s.data.toList := not_mem_byte s 0 (fun j hj => HZ.out j (by omega))
   by_cases h120 : s.size ≤ 120
   ·have hres : nameMay s.data.toList = Lib.validD s.data.toList := by
     unfold nameMay; rw [decide_eq_true h0, decide_eq_true (by omega)]; simp
    have HRES := Lib.hid hres
    clear hres h0
    go_wp2_with fail
    refine (CU.out _).mono ?_
    rintro e w2 ⟨rfl, hb⟩
    have HB2 : Hid (Below w.heap.size w w2) := HB.out.trans (hb.mono HB.out.size)
    clear hb
    go_wp2_with fail
    go_ret
    exact ⟨by rw [HRES.out]; rfl, HB2.out⟩
   ·have hres : nameMay s.data.toList = false := by
     unfold nameMay; rw [decide_eq_false (show ¬ s.data.toList.length ≤ 120 by omega)]; simp
    have HRES := Lib.hid hres
    clear hres h0
    go_wp2_with fail
    go_ret
    exact ⟨by rw [HRES.out]; rfl, HB.out⟩
def NamesIn (w : World) (v : Value) (p : List ByteArray) : Prop := ∃ a n c, v = .slice a n c ∧ n = p.length ∧ n ≤ 9223372036854775807 ∧ StrsIn w a p
theorem NamesAt.in {w : World} {v : Value} {p : List ByteArray} (h : NamesAt w v p) : NamesIn w v p := by
 obtain ⟨a, c, rfl, h1, h2, h3⟩ := h
 exact ⟨a, _, c, rfl, rfl, by omega, h3⟩
theorem NamesIn.keep {w w' : World} {v : Value} {p : List ByteArray} (h : NamesIn w v p) (hb : Below w.heap.size w w') : NamesIn w' v p := by
 obtain ⟨a, n, c, e, h1, h2, h3⟩ := h
 exact ⟨a, n, c, e, h1, h2, h3.keep hb⟩
end Go.Proofs.YtiajjgehnmkokaaGreatDoor
end
section
namespace Go.Proofs.YtiajjgehnmkokaaGreatDoor
open Go.RowKit
open Seal
open Bson (Val)
def truthK (k n : Int) : Bool := !noneB k && !((k == 3 || k == 4 || k == 10) && n == 0)
theorem boolean_any (b : Bool) (w : World) : Calls Tryz.prog 129 #[.bool b] w (ValBe 10 (if b then 1 else 0) w) := by
 cases b
 ·go_enter Tryz.func129, Tryz.ntmps129
  go_wp2_with fail
  exact bodyPost_ret (v := .agg #[.int .i64 10, .int .i64 0, .string ⟨#[]⟩, .slice none 0 0, .slice none 0 0, .slice none 0 0]) (by simp [results, Tryz.results129, go_sem]) rfl ⟨rfl, ((Below.refl _ _).alloc (Nat.le_refl _) _)⟩
 ·go_enter Tryz.func129, Tryz.ntmps129
  go_wp2_with fail
  exact bodyPost_ret (v := .agg #[.int .i64 10, .int .i64 1, .string ⟨#[]⟩, .slice none 0 0, .slice none 0 0, .slice none 0 0]) (by simp [results, Tryz.results129, go_sem]) rfl ⟨rfl, ((Below.refl _ _).alloc (Nat.le_refl _) _)⟩
theorem true_any (k n : Int) (p2 p3 p4 p5 : Value) (w : World) : Calls Tryz.prog 130 #[.agg #[.int .i64 k, .int .i64 n, p2, p3, p4, p5]] w (BoolBe (truthK k n) w) := by
 have HB := Lib.hid ((Below.refl w.heap.size w).alloc (Nat.le_refl _) (.cells #[.int .i64 k, .int .i64 n, p2, p3, p4, p5] 26))
 by_cases h0 : k = 0
 ·subst h0
  go_enter Tryz.func130, Tryz.ntmps130
  go_wp2_with fail
  go_ret
  exact ⟨rfl, HB.out⟩
 have b0 : (k == 0) = false := by rw [beq_eq_false_iff_ne]; exact h0
 by_cases h2 : k = 2
 ·subst h2
  go_enter Tryz.func130, Tryz.ntmps130
  go_wp2_with fail
  go_ret
  exact ⟨rfl, HB.out⟩
 have b2 : (k == 2) = false := by rw [beq_eq_false_iff_ne]; exact h2
 by_cases h3 : k = 3
 ·subst h3
  by_cases hn : n = 0
  ·subst hn
   go_enter Tryz.func130, Tryz.ntmps130
   go_wp2_with fail
   go_ret
   exact ⟨rfl, HB.out⟩
  ·have hnb : (n == 0) = false := by rw [beq_eq_false_iff_ne]; exact hn
   have hnc : (n != 0) = true := by rw [bne, hnb]; rfl
   have HR := Lib.hid (show truthK 3 n = true by unfold truthK; rw [hnb]; rfl)
   clear hn
   go_enter Tryz.func130, Tryz.ntmps130
   go_wp2_with fail
   go_ret
   exact ⟨by rw [HR.out]; rfl, HB.out⟩
 have b3 : (k == 3) = false := by rw [beq_eq_false_iff_ne]; exact h3
 by_cases h4 : k = 4
 ·subst h4
  by_cases hn : n = 0
  ·subst hn
   go_enter Tryz.func130, Tryz.ntmps130
   go_wp2_with fail
   go_ret
   exact ⟨rfl, HB.out⟩
  ·have hnb : (n == 0) = false := by rw [beq_eq_false_iff_ne]; exact hn
   have hnc : (n != 0) = true := by rw [bne, hnb]; rfl
   have HR := Lib.hid (show truthK 4 n = true by unfold truthK; rw [hnb]; rfl)
   clear hn
   go_enter Tryz.func130, Tryz.ntmps130
   go_wp2_with fail
   go_ret
   exact ⟨by rw [HR.out]; rfl, HB.out⟩
 have b4 : (k == 4) = false := by rw [beq_eq_false_iff_ne]; exact h4
 by_cases h10 : k = 10
 ·subst h10
  by_cases hn : n = 0
  ·subst hn
   go_enter Tryz.func130, Tryz.ntmps130
   go_wp2_with fail
   go_ret
   exact ⟨rfl, HB.out⟩
  ·have hnb : (n == 0) = false := by rw [beq_eq_false_iff_ne]; exact hn
   have hnc : (n != 0) = true := by rw [bne, hnb]; rfl
   have HR := Lib.hid (show truthK 10 n = true by unfold truthK; rw [hnb]; rfl)
   clear hn
   go_enter Tryz.func130, Tryz.ntmps130
   go_wp2_with fail
   go_ret
   exact ⟨by rw [HR.out]; rfl, HB.out⟩
 have b10 : (k == 10) = false := by rw [beq_eq_false_iff_ne]; exact h10
 have HR := Lib.hid (show truthK k n = true by unfold truthK noneB; rw [b0, b2, b3, b4, b10]; rfl)
 clear h0 h2 h3 h4 h10
 go_enter Tryz.func130, Tryz.ntmps130
 go_wp2_with fail
 go_ret
 exact ⟨by rw [HR.out]; rfl, HB.out⟩
theorem isNothing_any (k n : Int) (p2 p3 p4 p5 : Value) (w : World) : Calls Tryz.prog 131 #[.agg #[.int .i64 k, .int .i64 n, p2, p3, p4, p5]] w (BoolBe (noneB k) w) := by
 have HB := Lib.hid ((Below.refl w.heap.size w).alloc (Nat.le_refl _) (.cells #[.int .i64 k, .int .i64 n, p2, p3, p4, p5] 26))
 by_cases h2 : k = 2
 ·subst h2
  go_enter Tryz.func131, Tryz.ntmps131
  go_wp2_with fail
  go_ret
  exact ⟨rfl, HB.out⟩
 have b2 : (k == 2) = false := by rw [beq_eq_false_iff_ne]; exact h2
 by_cases h0 : k = 0
 ·subst h0
  go_enter Tryz.func131, Tryz.ntmps131
  go_wp2_with fail
  go_ret
  exact ⟨rfl, HB.out⟩
 have b0 : (k == 0) = false := by rw [beq_eq_false_iff_ne]; exact h0
 have HR := Lib.hid (show noneB k = false by unfold noneB; rw [b0, b2]; rfl)
 clear h0 h2
 go_enter Tryz.func131, Tryz.ntmps131
 go_wp2_with fail
 go_ret
 exact ⟨by rw [HR.out]; rfl, HB.out⟩
def EvPost (w : World) (H : Nat) (o : Expr.Out) (e : Ending) (w' : World) : Prop := ∃ v, e = .returned (.tuple #[v, .int .i64 o.1]) ∧ VIn w' (fun g => w.heap.size ≤ g) H o.2 v ∧ Below w.heap.size w w'
def Ev (w : World) (t : Value) (H : Nat) (f : Nat → Val → Expr.Out) : Prop :=
 ∃ (T : TypeId) (K : FuncId) (rv : Value), t = .iface T rv ∧ (∀ u : World, (method 295 T rv "aqueduct/expr.eval").run Tryz.prog u = .ok (K, rv) u) ∧ (∀ args (u : World), (callFunc K args).run Tryz.prog u = .ok (.enter K args) u) ∧
  ∀ (W : World), Below w.heap.size w W → ∀ (Q : Nat → Prop) (hd : Nat) (d : Val) (dv : Value), VIn W Q (hd + 1) d dv → Calls Tryz.prog K #[rv, dv] W (EvPost W (H + hd) (f hd d))
theorem Ev.keep {w w' : World} {t : Value} {H : Nat} {f : Nat → Val → Expr.Out} (h : Ev w t H f) (hb : Below w.heap.size w w') : Ev w' t H f := by
 obtain ⟨T, K, rv, h1, h2, h4, h3⟩ := h
 exact ⟨T, K, rv, h1, h2, h4, fun W hW => h3 W (hb.trans (hW.mono hb.size))⟩
theorem EvPost.up {w w' : World} {H H' : Nat} {o : Expr.Out} {e : Ending} (h : EvPost w H o e w') (hH : H ≤ H') : EvPost w H' o e w' := by
 obtain ⟨v, h1, h2, h3⟩ := h
 exact ⟨v, h1, h2.up hH, h3⟩
theorem Ev.up {w : World} {t : Value} {H H' : Nat} {f : Nat → Val → Expr.Out} (h : Ev w t H f) (hH : H ≤ H') : Ev w t H' f := by
 obtain ⟨T, K, rv, h1, h2, h4, h3⟩ := h
 exact ⟨T, K, rv, h1, h2, h4, fun W hW Q hd d dv hv => (h3 W hW Q hd d dv hv).mono fun e w' h => h.up (by omega)⟩
def TermsIn (w : World) (a : Option Addr) (H : Nat) (fs : List (Nat → Val → Expr.Out)) : Prop :=
 fs = [] ∨ ∃ g o, a = some ⟨g, o, none⟩ ∧ ∀ i (hi : i < fs.length), ∃ t, w.cell? ⟨g, o + i, none⟩ = some t ∧ Ev w t H fs[i]
theorem TermsIn.keep {w w' : World} {a : Option Addr} {H : Nat} {fs : List (Nat → Val → Expr.Out)} (h : TermsIn w a H fs) (hb : Below w.heap.size w w') : TermsIn w' a H fs := by
 rcases h with h | ⟨g, o, e, h⟩
 ·exact .inl h
 ·refine .inr ⟨g, o, e, fun i hi => ?_⟩
  obtain ⟨t, h1, h2⟩ := h i hi
  exact ⟨t, cell_keep hb h1, h2.keep hb⟩
def outsOf (fs : List (Nat → Val → Expr.Out)) (hd : Nat) (d : Val) : List Expr.Out := fs.map fun f => f hd d
theorem outsOf_length (fs : List (Nat → Val → Expr.Out)) (hd : Nat) (d : Val) : (outsOf fs hd d).length = fs.length := List.length_map ..
theorem outsOf_get (fs : List (Nat → Val → Expr.Out)) (hd : Nat) (d : Val) (i : Nat) (hi : i < fs.length) : (outsOf fs hd d)[i]'(by rw [outsOf_length]; exact hi) = fs[i] hd d := by simp [outsOf]
namespace Expr
theorem allO_ok : ∀ {l : List Out}, (∀ x ∈ l, x.1 = 0) → allO l = (0, l.map (·.2))
 | [], _ => rfl
 | x :: r, h => by
  have h1 := h x List.mem_cons_self
  have h2 := allO_ok fun y hy => h y (List.mem_cons_of_mem _ hy)
  rw [allO, if_pos h1, h2]; simp
theorem allO_bad : ∀ {l : List Out} {k : Nat} (hk : k < l.length), (∀ i (hi : i < k), (l[i]'(by omega)).1 = 0) → (l[k]).1 ≠ 0 → allO l = ((l[k]).1, [])
 | [], _, hk, _, _ => by simp at hk
 | x :: r, 0, _, _, h => by
  have h' : ¬ x.1 = 0 := h
  rw [allO, if_neg h']; rfl
 | x :: r, k + 1, hk, hb, h => by
  have h1 : x.1 = 0 := hb 0 (by omega)
  have h2 := allO_bad (l := r) (k := k) (by simpa using hk) (fun i hi => hb (i + 1) (by omega)) h
  have h' : ¬ (r[k]'(by simpa using hk)).1 = 0 := h
  rw [allO, if_pos h1, h2]
  show (if (r[k]'(by simpa using hk)).1 = 0 then _ else _) = _
  rw [if_neg h']; rfl
end Expr
theorem typeName_any (k : Int) (w : World) : Calls Tryz.prog 18 #[.int .i64 k] w fun e w' => e = .returned (.string (Expr.kindName k)) ∧ Below w.heap.size w w' := by
 obtain ⟨W1, hW1⟩ : ∃ W, W = w.alloc (.cells #[.string ⟨#[109, 105, 115, 115, 105, 110, 103]⟩, .string ⟨#[109, 105, 110, 75, 101, 121]⟩, .string ⟨#[110, 117, 108, 108]⟩, .string ⟨#[105, 110, 116]⟩, .string ⟨#[108, 111, 110, 103]⟩, .string ⟨#[115, 116, 114, 105, 110, 103]⟩, .string ⟨#[111, 98, 106, 101, 99, 116]⟩, .string ⟨#[97, 114, 114, 97, 121]⟩, .string ⟨#[98, 105, 110, 68, 97, 116, 97]⟩, .string ⟨#[111, 98, 106, 101, 99, 116, 73, 100]⟩, .string ⟨#[98, 111, 111, 108]⟩, .string ⟨#[100, 97, 116, 101]⟩, .string ⟨#[109, 97, 120, 75, 101, 121]⟩] 9) := ⟨_, rfl⟩
 obtain ⟨P1, hP1⟩ : ∃ P, P = w.heap.size := ⟨_, rfl⟩
 have hb1 : Below w.heap.size w W1 := by rw [hW1]; exact (Below.refl _ _).alloc (Nat.le_refl _) _
 have hr : W1.heap[P1]? = some (.cells #[.string ⟨#[109, 105, 115, 115, 105, 110, 103]⟩, .string ⟨#[109, 105, 110, 75, 101, 121]⟩, .string ⟨#[110, 117, 108, 108]⟩, .string ⟨#[105, 110, 116]⟩, .string ⟨#[108, 111, 110, 103]⟩, .string ⟨#[115, 116, 114, 105, 110, 103]⟩, .string ⟨#[111, 98, 106, 101, 99, 116]⟩, .string ⟨#[97, 114, 114, 97, 121]⟩, .string ⟨#[98, 105, 110, 68, 97, 116, 97]⟩, .string ⟨#[111, 98, 106, 101, 99, 116, 73, 100]⟩, .string ⟨#[98, 111, 111, 108]⟩, .string ⟨#[100, 97, 116, 101]⟩, .string ⟨#[109, 97, 120, 75, 101, 121]⟩] 9 (0, 0)) := by rw [hW1, hP1]; exact heap_alloc_new w _
 have HB := Lib.hid hb1
 have HW1 := Lib.hid hW1
 have HP1 := Lib.hid hP1
 by_cases h0 : k < 0
 ·have hkn : Expr.kindName k = ⟨#[]⟩ := by unfold Expr.kindName; repeat' (rw [if_neg (by omega)])
  have HK := Lib.hid hkn
  clear hkn hW1 hP1 hb1 hr
  go_enter Tryz.func18, Tryz.ntmps18
  go_wp2_with fail
  rw [← HW1.out]
  refine bodyPost_ret (v := .string ⟨#[]⟩) ?_ rfl ?_
  ·simp [results, Tryz.results18, go_sem, *]
  ·exact ⟨by rw [HK.out], HB.out⟩
 by_cases h1 : 13 ≤ k
 ·have hkn : Expr.kindName k = ⟨#[]⟩ := by unfold Expr.kindName; repeat' (rw [if_neg (by omega)])
  have HK := Lib.hid hkn
  clear hkn hW1 hP1 hb1 hr
  go_enter Tryz.func18, Tryz.ntmps18
  go_wp2_with fail
  rw [← HW1.out]
  refine bodyPost_ret (v := .string ⟨#[]⟩) ?_ rfl ?_
  ·simp [results, Tryz.results18, go_sem, *]
  ·exact ⟨by rw [HK.out], HB.out⟩
 obtain ⟨n, rfl⟩ := Int.eq_ofNat_of_zero_le (show 0 ≤ k by omega)
 have hn : n < 13 := by omega
 have hc : W1.cell? ⟨P1, n, none⟩ = some (.string (Expr.kindName (n : Int))) := by
  match n, hn with
  | 0, _ => exact (cell_of_row W1 P1 0 _ _ _ hr).trans rfl
  | 1, _ => exact (cell_of_row W1 P1 1 _ _ _ hr).trans rfl
  | 2, _ => exact (cell_of_row W1 P1 2 _ _ _ hr).trans rfl
  | 3, _ => exact (cell_of_row W1 P1 3 _ _ _ hr).trans rfl
  | 4, _ => exact (cell_of_row W1 P1 4 _ _ _ hr).trans rfl
  | 5, _ => exact (cell_of_row W1 P1 5 _ _ _ hr).trans rfl
  | 6, _ => exact (cell_of_row W1 P1 6 _ _ _ hr).trans rfl
  | 7, _ => exact (cell_of_row W1 P1 7 _ _ _ hr).trans rfl
  | 8, _ => exact (cell_of_row W1 P1 8 _ _ _ hr).trans rfl
  | 9, _ => exact (cell_of_row W1 P1 9 _ _ _ hr).trans rfl
  | 10, _ => exact (cell_of_row W1 P1 10 _ _ _ hr).trans rfl
  | 11, _ => exact (cell_of_row W1 P1 11 _ _ _ hr).trans rfl
  | 12, _ => exact (cell_of_row W1 P1 12 _ _ _ hr).trans rfl
 obtain ⟨nm, hnm⟩ : ∃ z, z = Expr.kindName (n : Int) := ⟨_, rfl⟩
 rw [← hnm] at hc ⊢
 have HC := Lib.hid hc
 have hn2 : (n : Int) < 13 := by omega
 have hn3 : ¬ (13 : Int) ≤ (n : Int) := by omega
 have hn4 : ¬ (n : Int) < 0 := by omega
 clear hW1 hP1 hb1 hr hnm hc h0 h1
 go_enter Tryz.func18, Tryz.ntmps18
 go_upto_region 2 with fail
 rw [← HW1.out, ← HP1.out]
 have c0 := HC.out
 go_wp2_with fail
 refine bodyPost_ret (v := .string nm) ?_ rfl ?_
 ·simp [results, Tryz.results18, go_sem, *]
 ·exact ⟨rfl, HB.out⟩
end Go.Proofs.YtiajjgehnmkokaaGreatDoor
end
section
namespace Go.Proofs.YtiajjgehnmkokaaGreatDoor
open Go.RowKit
open Seal
open Path
namespace Path
def Scan (l : List UInt8) (done : List (List UInt8)) (a i : Nat) : Prop :=
 a ≤ i ∧ done.all may = true ∧ done.length ≤ 16 ∧ ((i ≤ l.length ∧ split l = done ++ split (l.drop a) ∧ 46 ∉ (l.take i).drop a) ∨ (i = l.length + 1 ∧ a = i ∧ split l = done))
theorem Scan.next {l : List UInt8} {done : List (List UInt8)} {a i : Nat} (h : Scan l done a i) (hi : i < l.length) (hc : l[i] ≠ 46) : Scan l done a (i + 1) := by
 obtain ⟨h1, h2, h3, ⟨h4, h5, h6⟩ | ⟨h4, h5, h6⟩⟩ := h
 ·refine ⟨by omega, h2, h3, .inl ⟨by omega, h5, ?_⟩⟩
  rw [List.take_add_one, List.getElem?_eq_getElem hi, List.drop_append_of_le_length (by simp; omega)]
  intro hm
  rcases List.mem_append.1 hm with hm | hm
  ·exact h6 hm
  ·simp at hm; exact hc hm.symm
 ·omega
theorem Scan.name {l : List UInt8} {done : List (List UInt8)} {a i : Nat} (h : Scan l done a i) (hi : i ≤ l.length) (hc : ∀ h : i < l.length, l[i] = 46) :
  ∃ more, split l = done ++ ((l.take i).drop a) :: more ∧ (i = l.length → more = []) ∧ (i < l.length → more = split (l.drop (i + 1))) := by
 obtain ⟨h1, h2, h3, ⟨h4, h5, h6⟩ | ⟨h4, h5, h6⟩⟩ := h
 ·rcases Nat.lt_or_ge i l.length with hlt | hge
  ·have e : l.drop a = (l.take i).drop a ++ 46 :: l.drop (i + 1) := by
    have e1 : l = l.take i ++ l.drop i := (List.take_append_drop i l).symm
    have e2 : l.drop i = 46 :: l.drop (i + 1) := by rw [List.drop_eq_getElem_cons hlt, hc hlt]
    conv => lhs; rw [e1, List.drop_append_of_le_length (by simp; omega), e2]
   refine ⟨split (l.drop (i + 1)), ?_, fun e => by omega, fun _ => rfl⟩
   rw [h5, e, split_cut _ _ h6]
  ·have e : (l.take i).drop a = l.drop a := by rw [List.take_of_length_le (by omega)]
   refine ⟨[], ?_, fun _ => rfl, fun e => by omega⟩
   rw [h5, ← e, split_free _ h6]
 ·omega
theorem Scan.push {l : List UInt8} {done : List (List UInt8)} {a i : Nat} (h : Scan l done a i) (hi : i ≤ l.length) (hc : ∀ h : i < l.length, l[i] = 46) (hm : may ((l.take i).drop a) = true) (hd : done.length < 16) :
  Scan l (done ++ [(l.take i).drop a]) (i + 1) (i + 1) := by
 obtain ⟨more, h1, h2, h3⟩ := h.name hi hc
 refine ⟨Nat.le_refl _, by rw [List.all_append, h.2.1]; simp [hm], by simp; omega, ?_⟩
 rcases Nat.lt_or_ge i l.length with hlt | hge
 ·refine .inl ⟨by omega, by rw [h1, h3 hlt, List.append_assoc]; rfl, ?_⟩
  rw [List.drop_of_length_le (by simp; omega)]; simp
 ·exact .inr ⟨by omega, rfl, by rw [h1, h2 (by omega)]⟩
theorem Scan.bad {l : List UInt8} {done : List (List UInt8)} {a i : Nat} (h : Scan l done a i) (hi : i ≤ l.length) (hc : ∀ h : i < l.length, l[i] = 46) (hm : may ((l.take i).drop a) = false ∨ done.length = 16) : parse l = none := by
 obtain ⟨more, h1, _, _⟩ := h.name hi hc
 unfold parse
 rw [if_neg]
 rintro ⟨h2, h3⟩
 rw [h1] at h2 h3
 rcases hm with hm | hm
 ·simp [hm] at h2
 ·simp at h3; omega
theorem Scan.done {l : List UInt8} {done : List (List UInt8)} {a i : Nat} (h : Scan l done a i) (hi : l.length < i) : parse l = some done := by
 obtain ⟨h1, h2, h3, ⟨h4, h5, h6⟩ | ⟨h4, h5, h6⟩⟩ := h
 ·omega
 ·unfold parse; rw [h6, if_pos ⟨h2, h3⟩]
theorem filled (x : ByteArray) (h : ¬ x.size = 0) : (x.toList == (⟨#[]⟩ : ByteArray).toList) = false ∧ ¬ x.toList = [] ∧ x.toList.isEmpty = false := by
 have h1 : ¬ x.toList = [] := fun e => h (by
  rw [ByteArray.toList_eq] at e
  obtain ⟨⟨l⟩⟩ := x
  simp only at e
  subst e
  rfl)
 refine ⟨str_ne (fun e => h ((empty_iff x).1 e)), h1, ?_⟩
 cases e : x.toList with
 | nil => exact absurd e h1
 | cons _ _ => rfl
end Path
end Go.Proofs.YtiajjgehnmkokaaGreatDoor
end
section
namespace Go.Proofs.YtiajjgehnmkokaaGreatDoor
open Go.RowKit
open Seal
open Bson (Val)
def EvsPost (w : World) (B : Nat) (r : Int × List Val) (e : Ending) (w' : World) : Prop :=
 ∃ v, e = .returned (.tuple #[v, .int .i64 r.1]) ∧ (r.1 = 0 → ∃ xs, Acc w' (w.heap.size + 1) v (fun g => w.heap.size ≤ g) B r.2 xs) ∧ (r.1 ≠ 0 → v = .slice none 0 0) ∧ Below w.heap.size w w'
theorem evalAll_any (H hd : Nat) (a : Option Addr) (n c : Nat) (fs : List (Nat → Val → Expr.Out)) (Q : Nat → Prop) (d : Val) (dv : Value) (w : World) (hn : fs.length = n) (hlim : n ≤ 3000) (hT : TermsIn w a H fs) (hd0 : VIn w Q (hd + 1) d dv) :
  Calls Tryz.prog 132 #[.slice a n c, dv] w (EvsPost w (H + hd) (Expr.allO (outsOf fs hd d))) := by
 obtain ⟨i0, hi, hz0, hz1, hz2⟩ := info_parts infoV6
 obtain ⟨dk, dn, ds, da, df, dl, ba, bc, fa, fc, la, lc, rfl⟩ := hd0.shape
 have hb0 : Below w.heap.size w (w.alloc (.cells #[.int .i64 dk, .int .i64 dn, .string ds, .slice da ba bc, .slice df fa fc, .slice dl la lc] 26)) := (Below.refl _ w).alloc (Nat.le_refl _) _
 have HX0 := Lib.hid (IsBox.new w (.int .i64 dk) (.int .i64 dn) (.string ds) (.slice da ba bc) (.slice df fa fc) (.slice dl la lc))
 have HB0 := Lib.hid hb0
 have HT := Lib.hid hT
 have HD := Lib.hid hd0
 have HN := Lib.hid hn
 obtain ⟨r, hr⟩ : ∃ r, r = Expr.allO (outsOf fs hd d) := ⟨_, rfl⟩
 rw [← hr]
 have HR := Lib.hid hr
 clear hT hd0 hn hb0 hr
 go_enter Tryz.func132, Tryz.ntmps132
 go_wp2_with fail
 go_loopw [6, 13] (fun vv i wr => ∃ (k : Nat) (xs : List Value), k ≤ n ∧ i = .int .i64 k ∧ Hid (∀ i (hi : i < k) (hi2 : i < fs.length), (fs[i] hd d).1 = 0) ∧ Hid (Acc wr (w.heap.size + 1) vv (fun g => w.heap.size ≤ g) (H + hd) ((outsOf (fs.take k) hd d).map (·.2)) xs) ∧ Hid (IsBox wr w.heap.size (.int .i64 dk) (.int .i64 dn) (.string ds) (.slice da ba bc) (.slice df fa fc) (.slice dl la lc)) ∧ Hid (Below w.heap.size w wr)) (fun _ i _ => n - (intOf i).toNat)
 case atStart => exact ⟨0, [], Nat.zero_le _, rfl, fun _ h => absurd h (Nat.not_lt_zero _), Acc.nil _ _ _ _, HX0.out, HB0.out⟩
 case round =>
  obtain ⟨k, xs, hk, rfl, HOK, HA, HX, HB⟩ := hrel
  by_cases hlt : k < n
  ·have hkf : k < fs.length := by rw [HN.out]; exact hlt
   obtain ⟨g, o, rfl, hall⟩ := HT.out.resolve_left (fun e => by rw [e] at hkf; cases hkf)
   obtain ⟨t, hct, T, K, rv, rfl, hm, hme, hcall⟩ := hall k hkf
   have hct := cell_keep HB.out hct
   obtain ⟨x0, x1, x2, x3, x4, x5⟩ := HX.out.cells
   have CK := Lib.hid (hcall wr HB.out Q hd d _ (VIn.keep HB.out HD.out))
   obtain ⟨ou, hou⟩ : ∃ z, z = fs[k] hd d := ⟨_, rfl⟩
   rw [← hou] at CK
   have HOU := Lib.hid hou
   clear hall hcall hou
   have hag : (outsOf (fs.take (k + 1)) hd d).map (·.2) = (outsOf (fs.take k) hd d).map (·.2) ++ [ou.2] := by
    unfold outsOf
    rw [List.take_succ_eq_append_getElem hkf, List.map_append, List.map_append, HOU.out]; rfl
   have HAG := Lib.hid hag
   obtain ⟨m, hmk⟩ : ∃ m, m = ((outsOf (fs.take k) hd d).map (·.2)).length := ⟨_, rfl⟩
   have hmk2 : m = k := by rw [hmk, List.length_map, outsOf_length, List.length_take]; omega
   have HMK := Lib.hid (hmk.symm.trans hmk2)
   clear hag hmk hmk2
   go_wp2_with fail
   refine CK.out.mono ?_
   rintro e w2 ⟨v2, rfl, hv2, hb2⟩
   obtain ⟨kd, nd, sd, bd, fd, ld, bm, bz, fm, fz, lm, lz, rfl⟩ := hv2.shape
   have hA2 := HA.out.keep hb2
   have hX2 := HX.out.keep hb2
   have hB2 : Below w.heap.size w w2 := HB.out.trans (hb2.mono HB.out.size)
   have HV2 : Hid (VIn w2 (fun g => w.heap.size ≤ g ∧ u6.ownBlock ≠ some g) (H + hd) ou.2 (.agg #[.int .i64 kd, .int .i64 nd, .string sd, .slice bd bm bz, .slice fd fm fz, .slice ld lm lz])) := by
    refine hv2.kept (Kept.of_below (Below.refl _ _)) (fun g hg => ⟨by have := HB.out.size; omega, fun e => ?_⟩)
    have := owns_block HA.out.own e; omega
   have hb3 : Below w2.heap.size w2 (w2.alloc (.cells #[.int .i64 kd, .int .i64 nd, .string sd, .slice bd bm bz, .slice fd fm fz, .slice ld lm lz] 26)) := (Below.refl _ _).alloc (Nat.le_refl _) _
   have HA3 := Lib.hid (hA2.keep hb3)
   have HX3 := Lib.hid (hX2.keep hb3)
   have HB3 := Lib.hid (hB2.trans (hb3.mono hB2.size))
   have HV3 := Lib.hid (HV2.out.keep hb3)
   have HC3 := Lib.hid (IsBox.new w2 (.int .i64 kd) (.int .i64 nd) (.string sd) (.slice bd bm bz) (.slice fd fm fz) (.slice ld lm lz))
   clear hv2 hb2 hA2 hX2 hB2 HV2 hb3 CK x0 x1 x2 x3 x4 x5 HA HX HB hm hme hct
   by_cases hz : ou.1 = 0
   ·rw [hz]
    have HOK2 : Hid (∀ i (hi : i < k + 1) (hi2 : i < fs.length), (fs[i] hd d).1 = 0) := fun i hi hi2 => by
     by_cases e : i = k
     ·subst e; rw [← HOU.out]; exact hz
     ·exact HOK.out i (by omega) hi2
    have hb4 : Below (w2.alloc (.cells #[.int .i64 kd, .int .i64 nd, .string sd, .slice bd bm bz, .slice fd fm fz, .slice ld lm lz] 26)).heap.size (w2.alloc (.cells #[.int .i64 kd, .int .i64 nd, .string sd, .slice bd bm bz, .slice fd fm fz, .slice ld lm lz] 26)) ((w2.alloc (.cells #[.int .i64 kd, .int .i64 nd, .string sd, .slice bd bm bz, .slice fd fm fz, .slice ld lm lz] 26)).alloc (.cells #[.int .i64 kd, .int .i64 nd, .string sd, .slice bd bm bz, .slice fd fm fz, .slice ld lm lz] 26)) := (Below.refl _ _).alloc (Nat.le_refl _) _
    have HA4 := Lib.hid (HA3.out.keep hb4)
    have HX4 := Lib.hid (HX3.out.keep hb4)
    have HB4 := Lib.hid (HB3.out.trans (hb4.mono HB3.out.size))
    have HV4 := Lib.hid (HV3.out.keep hb4)
    have HOWN : Hid (((w2.alloc (.cells #[.int .i64 kd, .int .i64 nd, .string sd, .slice bd bm bz, .slice fd fm fz, .slice ld lm lz] 26)).alloc (.cells #[.int .i64 kd, .int .i64 nd, .string sd, .slice bd bm bz, .slice fd fm fz, .slice ld lm lz] 26)).ownsRow (w.heap.size + 1) 26 6 u6 k xs) := by have := HA4.out.own; rw [HMK.out] at this; exact this
    have HNW : Hid (∀ j u, ([.int .i64 kd, .int .i64 nd, .string sd, .slice bd bm bz, .slice fd fm fz, .slice ld lm lz] : List Value)[j]? = some u → ((w2.alloc (.cells #[.int .i64 kd, .int .i64 nd, .string sd, .slice bd bm bz, .slice fd fm fz, .slice ld lm lz] 26)).alloc (.cells #[.int .i64 kd, .int .i64 nd, .string sd, .slice bd bm bz, .slice fd fm fz, .slice ld lm lz] 26)).cell? (Addr.add ⟨w2.heap.size + 1, 0, none⟩ j) = some u) := by
     have hh := six_new (w2.alloc (.cells #[.int .i64 kd, .int .i64 nd, .string sd, .slice bd bm bz, .slice fd fm fz, .slice ld lm lz] 26)) (.int .i64 kd) (.int .i64 nd) (.string sd) (.slice bd bm bz) (.slice fd fm fz) (.slice ld lm lz) 26
     have e : (w2.alloc (.cells #[.int .i64 kd, .int .i64 nd, .string sd, .slice bd bm bz, .slice fd fm fz, .slice ld lm lz] 26)).heap.size = w2.heap.size + 1 := by simp
     rw [e] at hh; exact hh
    have HSZ : Hid (w.heap.size + 1 ≤ ((w2.alloc (.cells #[.int .i64 kd, .int .i64 nd, .string sd, .slice bd bm bz, .slice fd fm fz, .slice ld lm lz] 26)).alloc (.cells #[.int .i64 kd, .int .i64 nd, .string sd, .slice bd bm bz, .slice fd fm fz, .slice ld lm lz] 26)).heap.size) := HX4.out.lt
    obtain ⟨z0, z1, z2, z3, z4, z5⟩ := HC3.out.cells
    clear hb4 hz
    go_wp2_with (at_builtin; refine wpList_append_sz _ rfl (.tmp 26) (.tmp 28) 24 rfl (w.heap.size + 1) 26 i0 (.agg #[.int .i64 0, .int .i64 0, .string ⟨#[]⟩, .slice none 0 0, .slice none 0 0, .slice none 0 0]) 6 104 Tryz.underlying24 hi hz0 hz1 hz2 rfl u6 k xs rfl HOWN.out ⟨w2.heap.size + 1, 0, none⟩ 1 1 [.int .i64 kd, .int .i64 nd, .string sd, .slice bd bm bz, .slice fd fm fz, .slice ld lm lz] rfl rfl (by decide) (by decide) HNW.out (six_one _ _ _ _ _ _ _ _ _ _ _ _) (by unfold maxLen; omega) (by omega) HSZ.out ?_)
    intro v5 w5 hown5 hlies5
    have hw5 := Wrote.of_lies hlies5
    have HB5 : Hid (Below w.heap.size w w5) := HB4.out.grown hw5.1 HB4.out.size (fun j hj => by have := (owns_block HOWN.out hj).1; omega)
    have HX5 : Hid (IsBox w5 w.heap.size (.int .i64 dk) (.int .i64 dn) (.string ds) (.slice da ba bc) (.slice df fa fc) (.slice dl la lc)) := (hw5.1.block _ HX4.out.lt (fun e => by have := (owns_block HOWN.out e.symm).1; omega)).trans HX4.out
    have HA5 : Hid (Acc w5 (w.heap.size + 1) v5 (fun g => w.heap.size ≤ g) (H + hd) ((outsOf (fs.take (k + 1)) hd d).map (·.2)) (xs ++ [.int .i64 kd, .int .i64 nd, .string sd, .slice bd bm bz, .slice fd fm fz, .slice ld lm lz])) := by
     rw [HAG.out]; exact HA4.out.push hw5 (by rw [HMK.out]; exact hown5) HV4.out
    clear hown5 hlies5 hw5 HA3 HX3 HV3 HA4 HX4 HV4 HB4 HB3 HOWN HNW HSZ HMK HAG HC3
    clear z0 z1 z2 z3 z4 z5
    go_wp2_with fail
    go_roundw
    case rel => exact ⟨k + 1, _, by omega, by go_num, HOK2.out, HA5.out, HX5.out, HB5.out⟩
    case measure => simp [intOf]; omega
   ·have hz2 : (ou.1 == 0) = false := by rw [beq_eq_false_iff_ne]; exact hz
    have hres : r = (ou.1, []) := by
     rw [HR.out]
     have h1 := Expr.allO_bad (l := outsOf fs hd d) (k := k) (by rw [outsOf_length]; exact hkf) (fun i hi => by rw [outsOf_get fs hd d i (by omega)]; exact HOK.out i hi (by omega)) (by rw [outsOf_get fs hd d k hkf, ← HOU.out]; exact hz)
     rw [h1, outsOf_get fs hd d k hkf, ← HOU.out]
    have HRES := Lib.hid hres
    have HZ := Lib.hid hz
    clear hz hres
    go_wp2_with fail
    go_ret2
    exact ⟨_, by rw [HRES.out]; rfl, fun h => absurd (by rw [HRES.out] at h; exact h) HZ.out, fun _ => rfl, HB3.out⟩
  ·obtain rfl : k = n := by omega
   have htk : fs.take k = fs := List.take_of_length_le (by rw [HN.out]; exact Nat.le_refl _)
   have hres : r = (0, (outsOf fs hd d).map (·.2)) := by
    rw [HR.out]
    exact Expr.allO_ok fun x hx => by
     obtain ⟨i, hi, rfl⟩ := List.getElem_of_mem hx
     rw [outsOf_length] at hi
     rw [outsOf_get fs hd d i hi]
     exact HOK.out i (by rw [← HN.out]; exact hi) hi
   have HRES := Lib.hid hres
   have hA := HA.out
   rw [htk] at hA
   have HA2 := Lib.hid hA
   clear hres htk hA
   go_wp2_with fail
   go_ret2
   exact ⟨_, by rw [HRES.out]; rfl, fun _ => ⟨_, by rw [HRES.out]; exact HA2.out⟩, fun h => absurd (by rw [HRES.out]) h, HB.out⟩
end Go.Proofs.YtiajjgehnmkokaaGreatDoor
end
section
namespace Go.Proofs.YtiajjgehnmkokaaGreatDoor
open Go.RowKit
open Seal
open Bson (Val)
def zero6 : Array Value := #[.int .i64 0, .int .i64 0, .string ⟨#[]⟩, .slice none 0 0, .slice none 0 0, .slice none 0 0]
structure CS (w0 : World) (cs : List Value) (er : Value) (B : Nat) (x : Val) (D : Nat → Bool) (V : Nat → Value) (W : World) (v : Value) (lo hi p : Nat) : Prop where
 pure : ∀ i, i < 5 → D i = true → V i = cs.getD i undef
 bel : Below w0.heap.size w0 W
 call : D 5 = true → V 5 = .tuple #[v, er] ∧ VIn W (fun g => lo ≤ g ∧ g < hi) B x v ∧ w0.heap.size ≤ lo ∧ hi ≤ W.heap.size
 c6 : D 6 = true → V 6 = .tuple #[v, er] ∧ D 5 = true
 c7 : D 7 = true → V 7 = v ∧ D 6 = true
 c8 : D 8 = true → V 8 = er ∧ D 6 = true
 al : D 9 = true → V 9 = .pointer (some ⟨p, 0, none⟩) ∧ w0.heap.size ≤ p ∧ p < W.heap.size ∧ ∃ cs, W.heap[p]? = some (.cells cs 26 (0, 0)) ∧ (D 10 = false → cs = zero6) ∧ (D 10 = true → v = .agg cs)
 st : D 10 = true → D 9 = true ∧ D 7 = true
 apart : D 5 = true → D 9 = true → p < lo ∨ hi ≤ p
 c11 : D 11 = true → V 11 = er ∧ D 8 = true
def CI (w0 : World) (cs : List Value) (er : Value) (B : Nat) (x : Val) (D : Nat → Bool) (V : Nat → Value) (W : World) : Prop := ∃ v lo hi p, CS w0 cs er B x D V W v lo hi p
section
variable {w0 W W' : World} {cs : List Value} {er : Value} {B : Nat} {x : Val} {D : Nat → Bool} {V : Nat → Value}
theorem setD_ne {i j : Nat} (h : j ≠ i) : setD D i j = D j := if_neg h
theorem upd_ne {i j : Nat} {v : Value} (h : j ≠ i) : upd V i v j = V j := if_neg h
theorem CI.start {V : Nat → Value} : CI w0 cs er B x (fun _ => false) V { w0 with drawn := w0.drawn + 1 } :=
 ⟨undef, 0, 0, 0, fun _ _ h => (by cases h), ⟨rfl, rfl, rfl, Nat.le_refl _, fun _ _ => rfl⟩, fun h => (by cases h), fun h => (by cases h), fun h => (by cases h), fun h => (by cases h), fun h => (by cases h), fun h => (by cases h), fun h => (by cases h), fun h => (by cases h)⟩
theorem CI.below (h : CI w0 cs er B x D V W) : Below w0.heap.size w0 W := by obtain ⟨_, _, _, _, h⟩ := h; exact h.bel
theorem CI.known (h : CI w0 cs er B x D V W) {i : Nat} (hi : i < 5) (hd : D i = true) : V i = cs.getD i undef := by obtain ⟨_, _, _, _, h⟩ := h; exact h.pure i hi hd
theorem CI.asked (h : CI w0 cs er B x D V W) (hd : D 5 = true) : ∃ v, V 5 = .tuple #[v, er] ∧ CI w0 cs er B x D V W := by
 have h' := h
 obtain ⟨v, _, _, _, h⟩ := h
 exact ⟨v, (h.call hd).1, h'⟩
theorem CI.step (h : CI w0 cs er B x D V W) {i : Nat} (hi : i < 5) {c : Value} (hc : c = cs.getD i undef) : CI w0 cs er B x (setD D i) (upd V i c) W := by
 obtain ⟨v, lo, hi', p, h⟩ := h
 have e : ∀ j, 5 ≤ j → setD D i j = D j := fun j hj => setD_ne (by omega)
 have u : ∀ j, 5 ≤ j → upd V i c j = V j := fun j hj => upd_ne (by omega)
 refine ⟨v, lo, hi', p, fun j hj hd => ?_, h.bel, ?_, ?_, ?_, ?_, ?_, ?_, ?_, ?_⟩
 ·by_cases ej : j = i
  ·subst ej; unfold upd; rw [if_pos rfl]; exact hc
  ·rw [setD_ne ej] at hd; rw [upd_ne ej]; exact h.pure j hj hd
 ·rw [e 5 (by omega), u 5 (by omega)]; exact h.call
 ·rw [e 6 (by omega), e 5 (by omega), u 6 (by omega)]; exact h.c6
 ·rw [e 7 (by omega), e 6 (by omega), u 7 (by omega)]; exact h.c7
 ·rw [e 8 (by omega), e 6 (by omega), u 8 (by omega)]; exact h.c8
 ·rw [e 9 (by omega), e 10 (by omega), u 9 (by omega)]; exact h.al
 ·rw [e 10 (by omega), e 9 (by omega), e 7 (by omega)]; exact h.st
 ·rw [e 5 (by omega), e 9 (by omega)]; exact h.apart
 ·rw [e 11 (by omega), e 8 (by omega), u 11 (by omega)]; exact h.c11
theorem CI.call (h : CI w0 cs er B x D V W) (h5 : D 5 = false) {v : Value} (hb : Below W.heap.size W W') (hv : VIn W' (fun g => W.heap.size ≤ g) B x v) : CI w0 cs er B x (setD D 5) (upd V 5 (.tuple #[v, er])) W' := by
 obtain ⟨v0, lo, hi', p, h⟩ := h
 have e : ∀ j, j ≠ 5 → setD D 5 j = D j := fun j hj => setD_ne hj
 have u : ∀ j, j ≠ 5 → upd V 5 (.tuple #[v, er]) j = V j := fun j hj => upd_ne hj
 have n6 : D 6 = false := by cases e6 : D 6 with | false => rfl | true => rw [(h.c6 e6).2] at h5; cases h5
 have n7 : D 7 = false := by cases e7 : D 7 with | false => rfl | true => rw [(h.c7 e7).2] at n6; cases n6
 have n8 : D 8 = false := by cases e8 : D 8 with | false => rfl | true => rw [(h.c8 e8).2] at n6; cases n6
 have n10 : D 10 = false := by cases e10 : D 10 with | false => rfl | true => rw [(h.st e10).2] at n7; cases n7
 have n11 : D 11 = false := by cases e11 : D 11 with | false => rfl | true => rw [(h.c11 e11).2] at n8; cases n8
 refine ⟨v, W.heap.size, W'.heap.size, p, fun j hj hd => ?_, h.bel.trans (hb.mono h.bel.size), fun _ => ⟨rfl, hv.lt, h.bel.size, Nat.le_refl _⟩, ?_, ?_, ?_, ?_, ?_, ?_, ?_⟩
 ·rw [e j (by omega)] at hd; rw [u j (by omega)]; exact h.pure j hj hd
 ·rw [e 6 (by omega), n6]; exact fun h => (by cases h)
 ·rw [e 7 (by omega), n7]; exact fun h => (by cases h)
 ·rw [e 8 (by omega), n8]; exact fun h => (by cases h)
 ·rw [e 9 (by omega), e 10 (by omega), u 9 (by omega)]
  intro h9
  obtain ⟨h1, h2, h3, c, h4, h5, h6⟩ := h.al h9
  exact ⟨h1, h2, Nat.lt_of_lt_of_le h3 hb.size, c, (hb.block p h3).trans h4, h5, fun e => by rw [n10] at e; cases e⟩
 ·rw [e 10 (by omega), n10]; exact fun h => (by cases h)
 ·rw [e 9 (by omega)]
  intro _ h9
  exact .inl (h.al h9).2.2.1
 ·rw [e 11 (by omega), n11]; exact fun h => (by cases h)
theorem CI.moved (h : CI w0 cs er B x D V W) (h5 : D 5 = true) : CI w0 cs er B x (setD D 6) (upd V 6 (V 5)) W := by
 obtain ⟨v, lo, hi', p, h⟩ := h
 have e : ∀ j, j ≠ 6 → setD D 6 j = D j := fun j hj => setD_ne hj
 have u : ∀ j, j ≠ 6 → upd V 6 (V 5) j = V j := fun j hj => upd_ne hj
 refine ⟨v, lo, hi', p, fun j hj hd => ?_, h.bel, ?_, ?_, ?_, ?_, ?_, ?_, ?_, ?_⟩
 ·rw [e j (by omega)] at hd; rw [u j (by omega)]; exact h.pure j hj hd
 ·rw [e 5 (by omega), u 5 (by omega)]; exact h.call
 ·rw [e 5 (by omega)]; exact fun _ => ⟨(h.call h5).1, h5⟩
 ·rw [e 7 (by omega), u 7 (by omega)]; exact fun h7 => ⟨(h.c7 h7).1, rfl⟩
 ·rw [e 8 (by omega), u 8 (by omega)]; exact fun h8 => ⟨(h.c8 h8).1, rfl⟩
 ·rw [e 9 (by omega), e 10 (by omega), u 9 (by omega)]; exact h.al
 ·rw [e 10 (by omega), e 9 (by omega), e 7 (by omega)]; exact h.st
 ·rw [e 5 (by omega), e 9 (by omega)]; exact h.apart
 ·rw [e 11 (by omega), e 8 (by omega), u 11 (by omega)]; exact h.c11
theorem CI.got (h : CI w0 cs er B x D V W) (h6 : D 6 = true) : ∃ v, V 6 = .tuple #[v, er] ∧ CI w0 cs er B x (setD D 7) (upd V 7 v) W ∧ CI w0 cs er B x (setD D 8) (upd V 8 er) W := by
 obtain ⟨v, lo, hi', p, h⟩ := h
 refine ⟨v, (h.c6 h6).1, ⟨v, lo, hi', p, fun j hj hd => ?_, h.bel, ?_, ?_, ?_, ?_, ?_, ?_, ?_, ?_⟩, ⟨v, lo, hi', p, fun j hj hd => ?_, h.bel, ?_, ?_, ?_, ?_, ?_, ?_, ?_, ?_⟩⟩
 ·rw [setD_ne (show j ≠ 7 by omega)] at hd; rw [upd_ne (show j ≠ 7 by omega)]; exact h.pure j hj hd
 ·rw [setD_ne (show 5 ≠ 7 by omega), upd_ne (show 5 ≠ 7 by omega)]; exact h.call
 ·rw [setD_ne (show 6 ≠ 7 by omega), setD_ne (show 5 ≠ 7 by omega), upd_ne (show 6 ≠ 7 by omega)]; exact h.c6
 ·rw [setD_ne (show 6 ≠ 7 by omega)]; exact fun _ => ⟨rfl, h6⟩
 ·rw [setD_ne (show 8 ≠ 7 by omega), setD_ne (show 6 ≠ 7 by omega), upd_ne (show 8 ≠ 7 by omega)]; exact h.c8
 ·rw [setD_ne (show 9 ≠ 7 by omega), setD_ne (show 10 ≠ 7 by omega), upd_ne (show 9 ≠ 7 by omega)]; exact h.al
 ·rw [setD_ne (show 10 ≠ 7 by omega), setD_ne (show 9 ≠ 7 by omega)]; exact fun e => ⟨(h.st e).1, rfl⟩
 ·rw [setD_ne (show 5 ≠ 7 by omega), setD_ne (show 9 ≠ 7 by omega)]; exact h.apart
 ·rw [setD_ne (show 11 ≠ 7 by omega), setD_ne (show 8 ≠ 7 by omega), upd_ne (show 11 ≠ 7 by omega)]; exact h.c11
 ·rw [setD_ne (show j ≠ 8 by omega)] at hd; rw [upd_ne (show j ≠ 8 by omega)]; exact h.pure j hj hd
 ·rw [setD_ne (show 5 ≠ 8 by omega), upd_ne (show 5 ≠ 8 by omega)]; exact h.call
 ·rw [setD_ne (show 6 ≠ 8 by omega), setD_ne (show 5 ≠ 8 by omega), upd_ne (show 6 ≠ 8 by omega)]; exact h.c6
 ·rw [setD_ne (show 7 ≠ 8 by omega), setD_ne (show 6 ≠ 8 by omega), upd_ne (show 7 ≠ 8 by omega)]; exact h.c7
 ·rw [setD_ne (show 6 ≠ 8 by omega)]; exact fun _ => ⟨rfl, h6⟩
 ·rw [setD_ne (show 9 ≠ 8 by omega), setD_ne (show 10 ≠ 8 by omega), upd_ne (show 9 ≠ 8 by omega)]; exact h.al
 ·rw [setD_ne (show 10 ≠ 8 by omega), setD_ne (show 9 ≠ 8 by omega), setD_ne (show 7 ≠ 8 by omega)]; exact h.st
 ·rw [setD_ne (show 5 ≠ 8 by omega), setD_ne (show 9 ≠ 8 by omega)]; exact h.apart
 ·rw [setD_ne (show 11 ≠ 8 by omega), upd_ne (show 11 ≠ 8 by omega)]; exact fun e => ⟨(h.c11 e).1, rfl⟩
theorem CI.err (h : CI w0 cs er B x D V W) (h8 : D 8 = true) : V 8 = er ∧ CI w0 cs er B x (setD D 11) (upd V 11 er) W := by
 obtain ⟨v, lo, hi', p, h⟩ := h
 refine ⟨(h.c8 h8).1, v, lo, hi', p, fun j hj hd => ?_, h.bel, ?_, ?_, ?_, ?_, ?_, ?_, ?_, ?_⟩
 ·rw [setD_ne (show j ≠ 11 by omega)] at hd; rw [upd_ne (show j ≠ 11 by omega)]; exact h.pure j hj hd
 ·rw [setD_ne (show 5 ≠ 11 by omega), upd_ne (show 5 ≠ 11 by omega)]; exact h.call
 ·rw [setD_ne (show 6 ≠ 11 by omega), setD_ne (show 5 ≠ 11 by omega), upd_ne (show 6 ≠ 11 by omega)]; exact h.c6
 ·rw [setD_ne (show 7 ≠ 11 by omega), setD_ne (show 6 ≠ 11 by omega), upd_ne (show 7 ≠ 11 by omega)]; exact h.c7
 ·rw [setD_ne (show 8 ≠ 11 by omega), setD_ne (show 6 ≠ 11 by omega), upd_ne (show 8 ≠ 11 by omega)]; exact h.c8
 ·rw [setD_ne (show 9 ≠ 11 by omega), setD_ne (show 10 ≠ 11 by omega), upd_ne (show 9 ≠ 11 by omega)]; exact h.al
 ·rw [setD_ne (show 10 ≠ 11 by omega), setD_ne (show 9 ≠ 11 by omega), setD_ne (show 7 ≠ 11 by omega)]; exact h.st
 ·rw [setD_ne (show 5 ≠ 11 by omega), setD_ne (show 9 ≠ 11 by omega)]; exact h.apart
 ·rw [setD_ne (show 8 ≠ 11 by omega)]; exact fun _ => ⟨rfl, h8⟩
theorem CI.made (h : CI w0 cs er B x D V W) (h9 : D 9 = false) : CI w0 cs er B x (setD D 9) (upd V 9 (.pointer (some ⟨W.heap.size, 0, none⟩))) (W.alloc (.cells zero6 26)) := by
 obtain ⟨v, lo, hi', p, h⟩ := h
 have hb : Below W.heap.size W (W.alloc (.cells zero6 26)) := (Below.refl _ _).alloc (Nat.le_refl _) _
 have n10 : D 10 = false := by cases e : D 10 with | false => rfl | true => rw [(h.st e).1] at h9; cases h9
 refine ⟨v, lo, hi', W.heap.size, fun j hj hd => ?_, h.bel.trans (hb.mono h.bel.size), ?_, ?_, ?_, ?_, ?_, ?_, ?_, ?_⟩
 ·rw [setD_ne (show j ≠ 9 by omega)] at hd; rw [upd_ne (show j ≠ 9 by omega)]; exact h.pure j hj hd
 ·rw [setD_ne (show 5 ≠ 9 by omega), upd_ne (show 5 ≠ 9 by omega)]
  intro h5
  obtain ⟨h1, h2, h3, h4⟩ := h.call h5
  exact ⟨h1, h2.keep hb, h3, Nat.le_trans h4 hb.size⟩
 ·rw [setD_ne (show 6 ≠ 9 by omega), setD_ne (show 5 ≠ 9 by omega), upd_ne (show 6 ≠ 9 by omega)]; exact h.c6
 ·rw [setD_ne (show 7 ≠ 9 by omega), setD_ne (show 6 ≠ 9 by omega), upd_ne (show 7 ≠ 9 by omega)]; exact h.c7
 ·rw [setD_ne (show 8 ≠ 9 by omega), setD_ne (show 6 ≠ 9 by omega), upd_ne (show 8 ≠ 9 by omega)]; exact h.c8
 ·rw [setD_ne (show 10 ≠ 9 by omega), n10]
  exact fun _ => ⟨rfl, h.bel.size, by simp, zero6, heap_alloc_new W _, fun _ => rfl, fun e => (by cases e)⟩
 ·rw [setD_ne (show 10 ≠ 9 by omega), n10]; exact fun e => (by cases e)
 ·rw [setD_ne (show 5 ≠ 9 by omega)]; exact fun h5 _ => .inr (h.call h5).2.2.2
 ·rw [setD_ne (show 11 ≠ 9 by omega), setD_ne (show 8 ≠ 9 by omega), upd_ne (show 11 ≠ 9 by omega)]; exact h.c11
theorem CI.kept (h : CI w0 cs er B x D V W) (h9 : D 9 = true) (h7 : D 7 = true) (h10 : D 10 = false) : ∃ p k n s ba fa la bn bc fn fc ln lc, V 9 = .pointer (some ⟨p, 0, none⟩) ∧ V 7 = .agg #[.int .i64 k, .int .i64 n, .string s, .slice ba bn bc, .slice fa fn fc, .slice la ln lc] ∧ IsBox W p (.int .i64 0) (.int .i64 0) (.string ⟨#[]⟩) (.slice none 0 0) (.slice none 0 0) (.slice none 0 0) ∧
  CI w0 cs er B x (setD D 10) (upd V 10 undef) (puts W p 0 [.int .i64 k, .int .i64 n, .string s, .slice ba bn bc, .slice fa fn fc, .slice la ln lc]) := by
 obtain ⟨v, lo, hi', p, h⟩ := h
 obtain ⟨h1, h2, h3, c, h4, h5, h6⟩ := h.al h9
 obtain ⟨k1, k2⟩ := h.c7 h7
 obtain ⟨-, j2⟩ := h.c6 k2
 obtain ⟨l1, l2, l3, l4⟩ := h.call j2
 obtain ⟨k, n, s, ba, fa, la, bn, bc, fn, fc, ln, lc, rfl⟩ := l2.shape
 have hbx : IsBox W p (.int .i64 0) (.int .i64 0) (.string ⟨#[]⟩) (.slice none 0 0) (.slice none 0 0) (.slice none 0 0) := by rw [h5 h10] at h4; exact h4
 have hap := h.apart j2 h9
 refine ⟨p, k, n, s, ba, fa, la, bn, bc, fn, fc, ln, lc, h1, k1, hbx, .agg #[.int .i64 k, .int .i64 n, .string s, .slice ba bn bc, .slice fa fn fc, .slice la ln lc], lo, hi', p, fun j hj hd => ?_, puts_below h.bel h2 _ _, ?_, ?_, ?_, ?_, ?_, ?_, ?_, ?_⟩
 ·rw [setD_ne (show j ≠ 10 by omega)] at hd; rw [upd_ne (show j ≠ 10 by omega)]; exact h.pure j hj hd
 ·rw [setD_ne (show 5 ≠ 10 by omega), upd_ne (show 5 ≠ 10 by omega)]
  exact fun _ => ⟨l1, l2.kept (puts_kept (fun g => lo ≤ g ∧ g < hi') (by omega) _ _) (fun _ z => z), l3, by rw [puts_size]; exact l4⟩
 ·rw [setD_ne (show 6 ≠ 10 by omega), setD_ne (show 5 ≠ 10 by omega), upd_ne (show 6 ≠ 10 by omega)]; exact h.c6
 ·rw [setD_ne (show 7 ≠ 10 by omega), setD_ne (show 6 ≠ 10 by omega), upd_ne (show 7 ≠ 10 by omega)]; exact h.c7
 ·rw [setD_ne (show 8 ≠ 10 by omega), setD_ne (show 6 ≠ 10 by omega), upd_ne (show 8 ≠ 10 by omega)]; exact h.c8
 ·rw [setD_ne (show 9 ≠ 10 by omega), upd_ne (show 9 ≠ 10 by omega)]
  exact fun _ => ⟨h1, h2, by rw [puts_size]; exact h3, _, hbx.put _ _ _ _ _ _, fun e => (by cases e), fun _ => rfl⟩
 ·rw [setD_ne (show 9 ≠ 10 by omega), setD_ne (show 7 ≠ 10 by omega)]; exact fun _ => ⟨h9, h7⟩
 ·rw [setD_ne (show 5 ≠ 10 by omega), setD_ne (show 9 ≠ 10 by omega)]; exact fun _ _ => hap
 ·rw [setD_ne (show 11 ≠ 10 by omega), setD_ne (show 8 ≠ 10 by omega), upd_ne (show 11 ≠ 10 by omega)]; exact h.c11
theorem CI.end (h : CI w0 cs er B x D V W) (hD : ∀ i, i < 12 → D i = true) : ∃ p k n s ba fa la bn bc fn fc ln lc lo hi, V 9 = .pointer (some ⟨p, 0, none⟩) ∧ V 11 = er ∧ IsBox W p (.int .i64 k) (.int .i64 n) (.string s) (.slice ba bn bc) (.slice fa fn fc) (.slice la ln lc) ∧
  VIn W (fun g => lo ≤ g ∧ g < hi) B x (.agg #[.int .i64 k, .int .i64 n, .string s, .slice ba bn bc, .slice fa fn fc, .slice la ln lc]) ∧ w0.heap.size ≤ lo ∧ hi ≤ W.heap.size ∧ w0.heap.size ≤ p ∧ Below w0.heap.size w0 W := by
 obtain ⟨v, lo, hi', p, h⟩ := h
 obtain ⟨h1, h2, h3, c, h4, h5, h6⟩ := h.al (hD 9 (by omega))
 obtain ⟨l1, l2, l3, l4⟩ := h.call (hD 5 (by omega))
 obtain ⟨k, n, s, ba, fa, la, bn, bc, fn, fc, ln, lc, rfl⟩ := l2.shape
 have hc := h6 (hD 10 (by omega))
 injection hc with hc
 subst hc
 exact ⟨p, k, n, s, ba, fa, la, bn, bc, fn, fc, ln, lc, lo, hi', h1, (h.c11 (hD 11 (by omega))).1, h4, l2, l3, l4, h2, h.bel⟩
end
end Go.Proofs.YtiajjgehnmkokaaGreatDoor
end
