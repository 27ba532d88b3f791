/- RefOwnD, RefEnc, RefStr, RefFOut. -/
import Derived.Lib.AppendStr
import Derived.Test.YtngllchoiffniaaGreatDoorMo30
import Derived.Test.YtngllchoiffniaaGreatDoorMo2
import Derived.Test.YtngllchoiffniaaGreatDoorMo7
import Derived.Test.YtngllchoiffniaaGreatDoorMo13
import Derived.Test.YtngllchoiffniaaGreatDoorMo1
import Derived.Test.YtngllchoiffniaaGreatDoorMo3
set_option maxRecDepth 100000
set_option maxHeartbeats 20000000
section
namespace Go.Proofs.YtngllchoiffniaaGreatDoor
open Go.RowKit
open Seal
open Bson (Val)
theorem fields_keep {w w' : World} {Q : Nat → Prop} {h : Nat} {a : Option Addr} {f : List (ByteArray × Val)} (hb : Below w.heap.size w w') (hf : FieldsIn w Q (VIn w Q h) a f) : FieldsIn w' Q (VIn w' Q h) a f := FieldsIn.kept hf (Kept.of_below hb) (fun _ h => h) (fun _ _ h => VIn.keep hb h)
def OwnPostN (Q : Nat → Prop) (w : World) (p : Prop) (e : Ending) (w' : World) : Prop := ∃ v b n, e = .returned (.tuple #[v, .bool b]) ∧ BytesAt w' (fun g => Q g ∨ w.heap.size ≤ g) v n ∧ (b = true → n ≤ 70000 ∧ p) ∧ Below w.heap.size w w'
theorem OwnPost.nest {Q : Nat → Prop} {w : World} {p : Prop} (hp : p) {e : Ending} {w' : World} (h : OwnPost Q w e w') : OwnPostN Q w p e w' := by
 obtain ⟨v, b, n, h1, h2, h3, h4⟩ := h
 exact ⟨v, b, n, h1, h2, fun z => ⟨h3 z, hp⟩, h4⟩
def FieldsDo (h : Nat) (f : List (ByteArray × Val)) (d : Int) : Prop := ∀ (Q : Nat → Prop) (wx : World) (fa : Option Addr) (fc : Nat), f.length ≤ 1172812402961 → FieldsIn wx Q (VIn wx Q h) fa f → Calls Tryz.prog 72 #[.slice fa f.length fc, .int .i64 d] wx (OwnPostN Q wx (∀ p ∈ f, Key.legal (32 - d).toNat p.2))
theorem own_doc (Q : Nat → Prop) (h : Nat) (x : Val) (u : Value) (w : World) (d : Int) (hk : x.kind = 6) (hv : VIn w Q (h + 1) x u) (HF : d ≤ 32 → FieldsDo h x.f d) :
  Calls Tryz.prog 52 #[u, .int .i64 d] w (OwnPostN Q w (Key.legal (33 - d).toNat x)) := by
 obtain ⟨xk, xn, xs, ba, fa, la, bn, bc, fn, fc, ln, lc, rfl, hxk, hxn, hxs, hbn, hfn, hln, hL, hF, hI⟩ := hv.letters
 obtain rfl : xk = 6 := by rw [hxk, hk]
 have HV0 : Hid (VIn (w.alloc (.cells #[.int .i64 6, .int .i64 xn, .string xs, .slice ba bn bc, .slice fa fn fc, .slice la ln lc] 35)) Q (h + 1) x (.agg #[.int .i64 6, .int .i64 xn, .string xs, .slice ba bn bc, .slice fa fn fc, .slice la ln lc])) := VIn.keep ((Below.refl _ w).alloc (Nat.le_refl _) _) hv
 have HB0 : Hid (Below w.heap.size w (w.alloc (.cells #[.int .i64 6, .int .i64 xn, .string xs, .slice ba bn bc, .slice fa fn fc, .slice la ln lc] 35))) := (Below.refl _ w).alloc (Nat.le_refl _) _
 have hS := SixIs.new w (.int .i64 6) (.int .i64 xn) (.string xs) (.slice ba bn bc) (.slice fa fn fc) (.slice la ln lc) 35
 have HS0 := Lib.hid hS
 have HK := Lib.hid hk
 have HLF : Hid (x.f.length ≤ 1172812402961) := hL.f
 have HFN : Hid (fn = x.f.length) := hfn
 have HFI : Hid (FieldsIn w Q (VIn w Q h) fa x.f) := hF
 clear hv hxk hk hS hxn hxs hbn hfn hln hL hF hI
 generalize hW : w.alloc (.cells #[.int .i64 6, .int .i64 xn, .string xs, .slice ba bn bc, .slice fa fn fc, .slice la ln lc] 35) = W0 at *
 obtain ⟨e0, e1, e2, e3, e4, e5⟩ := HS0.out
 have hf : W0.cell? ⟨w.heap.size, 0, none⟩ = some (.int .i64 6) ∧ W0.cell? ⟨w.heap.size, 1, none⟩ = some (.int .i64 xn) ∧ W0.cell? ⟨w.heap.size, 2, none⟩ = some (.string xs) ∧ W0.cell? ⟨w.heap.size, 3, none⟩ = some (.slice ba bn bc) ∧ W0.cell? ⟨w.heap.size, 4, none⟩ = some (.slice fa fn fc) ∧ W0.cell? ⟨w.heap.size, 5, none⟩ = some (.slice la ln lc) := HS0.out
 have HDR : Hid (Below W0.heap.size W0 W0.drew) := (Below.refl _ W0).drew
 obtain ⟨b2, hb2⟩ : ∃ b2, b2 = Bson.bare x false false false true false := ⟨_, rfl⟩
 have HBARE : Hid (∀ wx, VIn wx Q (h + 1) x (.agg #[.int .i64 6, .int .i64 xn, .string xs, .slice ba bn bc, .slice fa fn fc, .slice la ln lc]) → Calls Tryz.prog 69 #[.agg #[.int .i64 6, .int .i64 xn, .string xs, .slice ba bn bc, .slice fa fn fc, .slice la ln lc], .bool false, .bool false, .bool false, .bool true, .bool false] wx fun e w' => e = .returned (.bool b2) ∧ Below wx.heap.size wx w') := fun wx hx => by rw [hb2]; exact bare_some4 Q (h + 1) x _ wx hx
 clear hb2
 by_cases hd : 32 < d
 ·have dd : decide (32 < d) = true := decide_eq_true (by omega)
  cases b2
  ·go_enter Tryz.func52, Tryz.ntmps52
   go_wp2_with fail
   clear hW
   go_at_call 69
   refine (HBARE.out W0 HV0.out).mono ?_
   rintro e w2 ⟨rfl, hb2⟩
   have HB2 : Hid (Below W0.heap.size W0 w2) := hb2
   have hs2 := HS0.out.keep hb2
   obtain ⟨g0, g1, g2, g3, g4, g5⟩ := hs2
   clear hb2
   go_wp2_with fail
   refine bodyPost_ret (v := .tuple #[.slice none 0 0, .bool false]) (by simp [results, Tryz.results52, go_sem]) rfl ?_
   exact ⟨_, false, 0, rfl, BytesAt.none _ _, nofun, HB0.out.trans (HB2.out.mono HB0.out.size)⟩
  ·go_enter Tryz.func52, Tryz.ntmps52
   go_wp2_with fail
   clear hW
   go_at_call 69
   refine (HBARE.out W0 HV0.out).mono ?_
   rintro e w2 ⟨rfl, hb2⟩
   have HB2 : Hid (Below W0.heap.size W0 w2) := hb2
   have hs2 := HS0.out.keep hb2
   obtain ⟨g0, g1, g2, g3, g4, g5⟩ := hs2
   clear hb2
   go_wp2_with fail
   refine bodyPost_ret (v := .tuple #[.slice none 0 0, .bool false]) (by simp [results, Tryz.results52, go_sem]) rfl ?_
   exact ⟨_, false, 0, rfl, BytesAt.none _ _, nofun, HB0.out.trans (HB2.out.mono HB0.out.size)⟩
 ·have dd : decide (32 < d) = false := decide_eq_false (by omega)
  cases b2
  ·go_enter Tryz.func52, Tryz.ntmps52
   go_wp2_with fail
   clear hW
   go_at_call 69
   refine (HBARE.out W0 HV0.out).mono ?_
   rintro e w2 ⟨rfl, hb2⟩
   have HB2 : Hid (Below W0.heap.size W0 w2) := hb2
   have hs2 := HS0.out.keep hb2
   obtain ⟨g0, g1, g2, g3, g4, g5⟩ := hs2
   clear hb2
   go_wp2_with fail
   refine bodyPost_ret (v := .tuple #[.slice none 0 0, .bool false]) (by simp [results, Tryz.results52, go_sem]) rfl ?_
   exact ⟨_, false, 0, rfl, BytesAt.none _ _, nofun, HB0.out.trans (HB2.out.mono HB0.out.size)⟩
  ·go_enter Tryz.func52, Tryz.ntmps52
   go_wp2_with fail
   clear hW
   go_at_call 69
   refine (HBARE.out W0 HV0.out).mono ?_
   rintro e w2 ⟨rfl, hb2⟩
   have HB2 : Hid (Below W0.heap.size W0 w2) := hb2
   have hs2 := HS0.out.keep hb2
   obtain ⟨g0, g1, g2, g3, g4, g5⟩ := hs2
   clear hb2
   go_wp2_with fail
   go_at_call 72
   obtain rfl := HFN.out
   refine (HF (by omega) Q w2 fa fc HLF.out (fields_keep (HB0.out.trans (HB2.out.mono HB0.out.size)) HFI.out)).mono ?_
   rintro e w3 ⟨v, b, n, rfl, hv, hn, hb⟩
   go_wp2_with fail
   refine bodyPost_ret (v := .tuple #[v, .bool b]) (by simp [results, Tryz.results52, go_sem]) rfl ?_
   exact ⟨v, b, n, rfl, hv.mono (fun g hg => hg.imp id (Nat.le_trans (HB0.out.trans (HB2.out.mono HB0.out.size)).size)), fun z => ⟨(hn z).1, by rw [show (33 - d).toNat = (32 - d).toNat + 1 by omega]; exact ⟨by rw [HK.out]; decide, fun _ => (hn z).2, fun e => absurd e (by rw [HK.out]; decide)⟩⟩, (HB0.out.trans (HB2.out.mono HB0.out.size)).trans (hb.mono (HB0.out.trans (HB2.out.mono HB0.out.size)).size)⟩
def OwnDo (h : Nat) : Prop := ∀ (Q : Nat → Prop) (x : Val) (u : Value) (w : World) (d : Int), 0 ≤ d → d ≤ 33 → VIn w Q h x u → Calls Tryz.prog 52 #[u, .int .i64 d] w (OwnPostN Q w (Key.legal (33 - d).toNat x))
theorem encode_some (Q : Nat → Prop) (h : Nat) (HO : OwnDo (h + 1)) (x : Val) (v : Value) (w : World) (hv : VIn w Q (h + 1) x v) :
  Calls Tryz.prog 34 #[v] w fun e w' => ∃ (b : Value) (n : Int), e = .returned (.tuple #[b, .int .i64 n]) ∧ (n = 0 → Key.legal 32 x) ∧ Below w.heap.size w w' := by
 obtain ⟨xk, xn, xs, ba, fa, la, bn, bc, fn, fc, ln, lc, rfl, hxk, hxn, hxs, hbn, hfn, hln, hL, hF, hI⟩ := hv.letters
 have HV0 : Hid (VIn (w.alloc (.cells #[.int .i64 xk, .int .i64 xn, .string xs, .slice ba bn bc, .slice fa fn fc, .slice la ln lc] 35)) Q (h + 1) x (.agg #[.int .i64 xk, .int .i64 xn, .string xs, .slice ba bn bc, .slice fa fn fc, .slice la ln lc])) := VIn.keep ((Below.refl _ w).alloc (Nat.le_refl _) _) hv
 have HB0 : Hid (Below w.heap.size w (w.alloc (.cells #[.int .i64 xk, .int .i64 xn, .string xs, .slice ba bn bc, .slice fa fn fc, .slice la ln lc] 35))) := (Below.refl _ w).alloc (Nat.le_refl _) _
 have hS := SixIs.new w (.int .i64 xk) (.int .i64 xn) (.string xs) (.slice ba bn bc) (.slice fa fn fc) (.slice la ln lc) 35
 have HS0 := Lib.hid hS
 clear hv hxk hS hxn hxs hbn hfn hln hL hF hI
 generalize hW : w.alloc (.cells #[.int .i64 xk, .int .i64 xn, .string xs, .slice ba bn bc, .slice fa fn fc, .slice la ln lc] 35) = W0 at *
 obtain ⟨e0, e1, e2, e3, e4, e5⟩ := HS0.out
 have HOW : Hid (∀ wx, VIn wx Q (h + 1) x (.agg #[.int .i64 xk, .int .i64 xn, .string xs, .slice ba bn bc, .slice fa fn fc, .slice la ln lc]) → Calls Tryz.prog 52 #[.agg #[.int .i64 xk, .int .i64 xn, .string xs, .slice ba bn bc, .slice fa fn fc, .slice la ln lc], .int .i64 1] wx (OwnPostN Q wx (Key.legal 32 x))) := fun wx hx => HO Q x _ wx 1 (by decide) (by decide) hx
 clear HO
 by_cases h6 : xk = 6
 ·subst h6
  go_enter Tryz.func34, Tryz.ntmps34
  go_wp2_with fail
  go_at_call 52
  refine (HOW.out W0 HV0.out).mono ?_
  rintro e w1 ⟨b1, ok, n, rfl, _, hq1, hb1⟩
  have HQ1 := Lib.hid hq1
  clear hq1
  have HB1 : Hid (Below w.heap.size w w1) := HB0.out.trans (hb1.mono HB0.out.size)
  clear hb1 hW
  cases ok
  ·go_wp2_with fail
   refine bodyPost_ret (v := .tuple #[.slice none 0 0, .int .i64 1]) (by simp [results, Tryz.results34, go_sem]) rfl ?_
   exact ⟨_, _, rfl, nofun, HB1.out⟩
  ·go_wp2_with fail
   refine bodyPost_ret (v := .tuple #[b1, .int .i64 0]) (by simp [results, Tryz.results34, go_sem]) rfl ?_
   exact ⟨_, _, rfl, fun _ => (HQ1.out (by trivial)).2, HB1.out⟩
 ·have d6 : (xk != 6) = true := by simp [h6]
  go_enter Tryz.func34, Tryz.ntmps34
  go_wp2_with fail
  refine bodyPost_ret (v := .tuple #[.slice none 0 0, .int .i64 1]) (by simp [results, Tryz.results34, go_sem]) rfl ?_
  exact ⟨_, _, rfl, nofun, HB0.out⟩
theorem may_fits (Q : Nat → Prop) (h : Nat) (HO : OwnDo (h + 1)) (x : Val) (v : Value) (w : World) (hv : VIn w Q (h + 1) x v) :
  Calls Tryz.prog 12 #[v] w fun e w' => ∃ b, e = .returned (.bool b) ∧ (b = true → Key.legal 32 x) ∧ Below w.heap.size w w' := by
 obtain ⟨xk, xn, xs, ba, fa, la, bn, bc, fn, fc, ln, lc, rfl, hxk, hxn, hxs, hbn, hfn, hln, hL, hF, hI⟩ := hv.letters
 have HV0 : Hid (VIn (w.alloc (.cells #[.int .i64 xk, .int .i64 xn, .string xs, .slice ba bn bc, .slice fa fn fc, .slice la ln lc] 35)) Q (h + 1) x (.agg #[.int .i64 xk, .int .i64 xn, .string xs, .slice ba bn bc, .slice fa fn fc, .slice la ln lc])) := VIn.keep ((Below.refl _ w).alloc (Nat.le_refl _) _) hv
 have HB0 : Hid (Below w.heap.size w (w.alloc (.cells #[.int .i64 xk, .int .i64 xn, .string xs, .slice ba bn bc, .slice fa fn fc, .slice la ln lc] 35))) := (Below.refl _ w).alloc (Nat.le_refl _) _
 have hS := SixIs.new w (.int .i64 xk) (.int .i64 xn) (.string xs) (.slice ba bn bc) (.slice fa fn fc) (.slice la ln lc) 35
 have HS0 := Lib.hid hS
 clear hv hxk hS hxn hxs hbn hfn hln hL hF hI
 generalize hW : w.alloc (.cells #[.int .i64 xk, .int .i64 xn, .string xs, .slice ba bn bc, .slice fa fn fc, .slice la ln lc] 35) = W0 at *
 obtain ⟨e0, e1, e2, e3, e4, e5⟩ := HS0.out
 go_enter Tryz.func12, Tryz.ntmps12
 go_wp2_with fail
 go_at_call 34
 refine (encode_some Q h HO x _ W0 HV0.out).mono ?_
 rintro e w1 ⟨b1, n, rfl, hq1, hb1⟩
 have HQ1 := Lib.hid hq1
 have HB1 : Hid (Below w.heap.size w w1) := HB0.out.trans (hb1.mono HB0.out.size)
 clear hb1 hW hq1
 go_wp2_with fail
 go_ret
 exact ⟨_, rfl, fun hb => HQ1.out (by simpa using hb), HB1.out⟩
end Go.Proofs.YtngllchoiffniaaGreatDoor
end
section
namespace Go.Proofs.YtngllchoiffniaaGreatDoor
open Go.RowKit
def Moved (w : World) (v v' : Value) : Prop := v'.ownBlock = v.ownBlock ∨ v'.ownBlock = some w.heap.size
section
variable {P : Program} (w : World)
theorem run_append_str_at (base : Nat) (t u ty e : TypeId) (i : TypeInfo) (ht : P.underlying t = some (.slice e)) (hu : P.underlying u = some .string) (hi : P.info? e = some i) (hz : i.zero = some (.int .u8 0))
  (hsize : i.size = 1) (hby : i.bytes = 1) (v : Value) (n : Nat) (xs : List Value) (hown : w.ownsRow base e 1 v n xs) (s : ByteArray)
  (h63 : n + s.size ≤ maxLen) (hbytes : n + s.size ≤ 140737488355328) (hbase : base ≤ w.heap.size) :
  ∃ v' w', (Builtin.append_ #[t, u] ty #[v, .string s]).run P w = .ok v' w' ∧ w'.ownsRow base e 1 v' (n + s.size) (xs ++ Lib.strCells s) ∧ w.grownBy w' v.ownBlock ∧ Moved w v v' := by
 obtain ⟨v', w', hr, h2, h3, h4⟩ := Lib.run_append_own_string (P := P) w base t u ty e i ht hu hi hz hsize hby v n xs hown s h63 hbytes hbase
 refine ⟨v', w', hr, h2, h3, ?_⟩
 have hsmall : n + s.size ≤ 9223372036854775807 := by simp only [maxLen] at h63; omega
 have hxl : xs.length = n := by simpa using hown.1
 rcases hown.2 with ⟨rfl, rfl⟩ | ⟨g, cap, cur, rfl, hbg, hg, hnc, hcm, hcs, htake⟩
 ·by_cases hs : s.size = 0
  ·left
   rw [h4.2 ⟨rfl, hs⟩]
  ·right
   have hq := run_append_nil_string (P := P) w t u ty e i (.int .u8 0) ht hu hi hz s (by omega) (by omega) (by rw [hby]; omega)
   rw [hq] at hr
   injection hr with hr _
   rw [← hr]
   rfl
 ·by_cases hroom : n + s.size ≤ cap
  ·left
   have hcs' : cur.size = cap := by simpa using hcs
   have hq := Lib.run_append_room_string (P := P) w t u ty e i ht hu hi hsize g n cap cur hg s hroom (by omega)
   rw [hq] at hr
   injection hr with hr _
   rw [← hr]
   rfl
  ·right
   have holds : ∀ j u, xs[j]? = some u → w.cell? ((⟨g, 0, none⟩ : Addr).add j) = some u := hown.cells (g := g) rfl
   have hq := Lib.run_append_grow_string (P := P) w t u ty e i (.int .u8 0) ht hu hi hz ⟨g, 0, none⟩ n cap xs (by rw [hsize]; simpa using hxl) holds s (by omega) (by omega) (by rw [hby]; exact growslice_fits (by omega) (by omega))
   rw [hq] at hr
   injection hr with hr _
   rw [← hr]
   rfl
theorem step_append_str_at {ops : Array Oper} {o : Oper} {a : Act} {w : World} {K : Act → World → Prop} {Q : Exit → Act → World → Prop} {E : Prop}
  (hg : o.guard = none) (sl x : Operand) (t u : TypeId) (ho : o.op = .call { callee := .builtin .append, args := #[sl, x], argTypes := #[t, u] })
  (base : Nat) (e : TypeId) (i : TypeInfo) (ht : P.underlying t = some (.slice e)) (hu : P.underlying u = some .string) (hi : P.info? e = some i) (hz : i.zero = some (.int .u8 0))
  (hsize : i.size = 1) (hby : i.bytes = 1) (v : Value) (n : Nat) (xs : List Value) (hs : a.eval sl = v) (hown : w.ownsRow base e 1 v n xs) (s : ByteArray) (hx : a.eval x = .string s)
  (h63 : n + s.size ≤ maxLen) (hbytes : n + s.size ≤ 140737488355328) (hbase : base ≤ w.heap.size)
  (h : ∀ v' w', w'.ownsRow base e 1 v' (n + s.size) (xs ++ Lib.strCells s) → w.grownBy w' v.ownBlock → Moved w v v' → K (a.put o.dst v') w') :
  if Region.wanted o (yielded ops a.tmps) = true then Oper.wp P o a w K Q else E := by
 have hw : Region.wanted o (yielded ops a.tmps) = true := by simp [Region.wanted, hg]
 rw [if_pos hw]
 obtain ⟨v', w', hr, h2, h3, h4⟩ := run_append_str_at (P := P) w base t u o.type e i ht hu hi hz hsize hby v n xs hown s h63 hbytes hbase
 unfold Oper.wp execOp
 simp only [ho, resolve, invoke, builtin, Sem.run_bind, Sem.run_pure, Result.andThen_ok, List.map_toArray, List.map_cons, List.map_nil, hs, hx, hr]
 exact h v' w' h2 h3 h4
end
end Go.Proofs.YtngllchoiffniaaGreatDoor
end
section
namespace Go.Proofs.YtngllchoiffniaaGreatDoor
open Go.RowKit
open Seal
open Bson (Val)
theorem BytesAt.lt {w : World} {Q : Nat → Prop} {v : Value} {n : Nat} (h : BytesAt w Q v n) : BytesAt w (fun g => Q g ∧ g < w.heap.size) v n := by
 obtain ⟨a, c, l, rfl, hl, ho, hb⟩ := h
 refine ⟨a, c, l, rfl, hl, ho, ?_⟩
 rcases hb with rfl | ⟨g, o, e, hq, hr⟩
 ·exact .inl rfl
 ·by_cases h0 : l.length = 0
  ·exact .inl (List.eq_nil_of_length_eq_zero h0)
  ·exact .inr ⟨g, o, e, ⟨hq, World.block_lt_of_cell? w _ (hr 0 (by omega))⟩, hr⟩
theorem BytesAt.kept {w w' : World} {Q : Nat → Prop} {v : Value} {n : Nat} (h : BytesAt w Q v n) (hk : ∀ g, Q g → g < w.heap.size → w'.heap[g]? = w.heap[g]?) : BytesAt w' Q v n := by
 obtain ⟨a, c, l, rfl, hl, ho, hb⟩ := h
 refine ⟨a, c, l, rfl, hl, ho, ?_⟩
 rcases hb with rfl | ⟨g, o, e, hq, hr⟩
 ·exact .inl rfl
 ·refine .inr ⟨g, o, e, hq, fun j hj => ?_⟩
  have hc := hr j hj
  have hlt := World.block_lt_of_cell? w _ hc
  rw [World.cell?_of_block (a := ⟨g, o + j, Option.none⟩) (hk g hq hlt)]
  exact hc
structure Out (wx W : World) (base lo hi : Nat) (v : Value) (n : Nat) (vx : Value) (nx : Nat) : Prop where
 below : Below base wx W
 row : ∃ l, W.ownsRow base 5 1 v n (u8s l) ∧ Oct l
 size : base ≤ lo ∧ lo ≤ hi ∧ hi ≤ W.heap.size
 away : ∀ g, v.ownBlock = some g → g < lo ∨ hi ≤ g
 x : BytesAt W (fun g => g < base ∨ (lo ≤ g ∧ g < hi)) vx nx
theorem Out.keep {wx W W' : World} {base lo hi : Nat} {v : Value} {n : Nat} {vx : Value} {nx : Nat} (h : Out wx W base lo hi v n vx nx) (hb : Below W.heap.size W W') : Out wx W' base lo hi v n vx nx := by
 obtain ⟨l, h1, h2⟩ := h.row
 have hs := h.size
 exact ⟨h.below.trans (hb.mono (by omega)), ⟨l, owns_below h1 hb, h2⟩, ⟨hs.1, hs.2.1, Nat.le_trans hs.2.2 hb.size⟩, h.away, h.x.kept (fun g _ hg => hb.block g hg)⟩
theorem Out.put {wx W W' : World} {base lo hi : Nat} {v v' : Value} {n m : Nat} {vx : Value} {nx : Nat} (h : Out wx W base lo hi v n vx nx) {l : List Nat} (ho : W'.ownsRow base 5 1 v' (n + m) (u8s l)) (hl : Oct l) (hg : W.grownBy W' v.ownBlock) (hm : Moved W v v') : Out wx W' base lo hi v' (n + m) vx nx := by
 obtain ⟨l0, h1, h2⟩ := h.row
 have hs := h.size
 refine ⟨h.below.grown hg (by omega) (fun k hk => (owns_block h1 hk).1), ⟨l, ho, hl⟩, ⟨hs.1, hs.2.1, Nat.le_trans hs.2.2 hg.size⟩, fun g hgv => ?_, h.x.kept (fun g hq hlt => hg.block g hlt (fun e => ?_))⟩
 ·rcases hm with e | e
  ·exact h.away g (by rw [← e]; exact hgv)
  ·rw [e] at hgv
   injection hgv with hgv
   omega
 ·have ha := h.away g e.symm
  have hb := (owns_block h1 e.symm).1
  omega
theorem grown_none {w w' : World} {r : Option Nat} (h : w.grownBy w' none) : w.grownBy w' r := ⟨h.os, h.tape, h.output, h.size, fun k hk _ => h.block k hk (by simp)⟩
theorem Lies.grown {w w' : World} {v v' : Value} (h : Lies w w' v v') : w.grownBy w' v.ownBlock := by
 rcases h with ⟨_, h⟩ | ⟨_, h⟩
 ·exact h
 ·exact grown_none h
theorem Lies.moved {w w' : World} {v v' : Value} (h : Lies w w' v v') : Moved w v v' := by
 rcases h with ⟨h, _⟩ | ⟨h, _⟩
 ·exact .inl h
 ·exact .inr h
def ByteAt (W : World) (N : Nat) (c : Int) (v : Value) : Prop := N < W.heap.size ∧ W.cell? ⟨N, 0, none⟩ = some (.int .u8 c) ∧ ∀ g, v.ownBlock = some g → g ≠ N
theorem ByteAt.new {W : World} {base lo hi : Nat} {wx : World} {v : Value} {n : Nat} {vx : Value} {nx : Nat} (h : Out wx W base lo hi v n vx nx) (c : Int) (t : TypeId) : ByteAt (W.alloc (.cells #[.int .u8 c] t)) W.heap.size c v := by
 obtain ⟨l0, h1, h2⟩ := h.row
 exact ⟨(Array.getElem?_eq_some_iff.1 (heap_alloc_new W _)).1, (cell_of_row _ _ 0 _ _ _ (heap_alloc_new W _)).trans rfl, fun g hg => by have := (owns_block h1 hg).2; omega⟩
theorem ByteAt.keep {W W' : World} {N : Nat} {c : Int} {v : Value} (h : ByteAt W N c v) (hb : Below W.heap.size W W') : ByteAt W' N c v := ⟨Nat.lt_of_lt_of_le h.1 hb.size, cell_keep hb h.2.1, h.2.2⟩
theorem ByteAt.put {W W' : World} {N : Nat} {c : Int} {v v' : Value} (h : ByteAt W N c v) (hg : W.grownBy W' v.ownBlock) (hm : Moved W v v') : ByteAt W' N c v' := by
 refine ⟨Nat.lt_of_lt_of_le h.1 hg.size, ?_, fun g hgv => ?_⟩
 ·rw [World.cell?_of_block (a := ⟨N, 0, none⟩) (hg.block N h.1 (fun e => h.2.2 N e.symm rfl))]; exact h.2.1
 ·rcases hm with e | e
  ·exact h.2.2 g (by rw [← e]; exact hgv)
  ·rw [e] at hgv
   injection hgv with hgv
   have := h.1
   omega
theorem ByteAt.reads {W : World} {N : Nat} {c : Int} {v : Value} (h : ByteAt W N c v) : ∀ j u, ([.int .u8 c] : List Value)[j]? = some u → W.cell? (Addr.add ⟨N, 0, none⟩ j) = some u := by
 intro j u hj
 cases j with
 | zero => simp at hj; subst hj; exact h.2.1
 | succ j => simp at hj
theorem oct_one {c : Nat} (h : c < 256) : Oct [c] := fun x hx => by rw [List.mem_singleton.1 hx]; exact h
end Go.Proofs.YtngllchoiffniaaGreatDoor
end
