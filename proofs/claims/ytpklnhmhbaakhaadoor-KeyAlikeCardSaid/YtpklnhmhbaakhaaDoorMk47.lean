/- RefOwnAll, KeyPlain, KeyAlikeRow. -/
import Derived.Test.YtpklnhmhbaakhaaDoorMk46
import Derived.Test.YtpklnhmhbaakhaaDoorMk45
import Derived.Test.YtpklnhmhbaakhaaDoorMk43
import Derived.Test.YtpklnhmhbaakhaaDoorMk16
import Derived.Test.YtpklnhmhbaakhaaDoorMk17
import Derived.Test.YtpklnhmhbaakhaaDoorMk13
import Derived.Test.YtpklnhmhbaakhaaDoorMk3
import Derived.Test.YtpklnhmhbaakhaaDoorMk20
import Derived.Test.YtpklnhmhbaakhaaDoorMk24
import Derived.Test.YtpklnhmhbaakhaaDoorMk6
set_option maxRecDepth 100000
section
namespace Go.Proofs.YtpklnhmhbaakhaaDoor
open Go.RowKit
open Seal
open Bson (Val)
/-- own does, of whatever. -/
theorem own_any (h : Nat) : OwnDo h := own_all (fun h HO d h0 h1 f => fields_do h HO d h0 h1 f) h
/-- What Valid says true of is small. -/
theorem valid_does (Q : Nat → Prop) (h : Nat) (x : Val) (v : Value) (w : World) (hv : VIn w Q (h + 1) x v) :
    Calls Tryd.prog 8 #[v] w (SmallPost w (h + 1) x) := valid_any Q h (own_any (h + 2)) x v w hv
theorem valid_legal (Q : Nat → Prop) (h : Nat) (x : Val) (v : Value) (w : World) (hv : VIn w Q (h + 1) x v) :
    Calls Tryd.prog 8 #[v] w fun e w' => ∃ b, e = .returned (.bool b) ∧ (b = true → wt (h + 1) x ≤ 3000 ∧ Key.legal 31 x) ∧ Below w.heap.size w w' := valid_more Q h (own_any (h + 2)) x v w hv
end Go.Proofs.YtpklnhmhbaakhaaDoor
end
section
namespace Go.Proofs.YtpklnhmhbaakhaaDoor
open Go.RowKit
open Seal
open Bson (Val)
/-- What is known of a row of which Plain says true. -/
def PlainIs (h n : Nat) (l : List Val) : Prop := n ≤ 30 ∧ (∀ x ∈ l, wt h x ≤ 3000) ∧ ∀ x ∈ l, Key.fits 34 x
def PlainPost (h n : Nat) (l : List Val) (w : World) (e : Ending) (w' : World) : Prop := ∃ b, e = .returned (.bool b) ∧ (b = true → PlainIs h n l) ∧ Below w.heap.size w w'
theorem fits_in_doc {x : Val} {nm : ByteArray} (h : Key.fits 32 (.mk 6 0 ⟨#[]⟩ [] [(nm, x)] [])) : Key.fits 34 x := by
  have h1 : Key.fits 31 x := h.1 rfl (nm, x) (by show (nm, x) ∈ [(nm, x)]; simp)
  exact fits_more 31 x h1 3
theorem fits_zero {x : Val} (h : x.kind = 0) : Key.fits 34 x := fits_leaf (by rw [h]; decide) (by rw [h]; decide) 34
set_option maxRecDepth 100000 in
set_option maxHeartbeats 4000000 in
theorem plain_any (Q : Nat → Prop) (h : Nat) (a : Option Addr) (n c : Nat) (l : List Val) (w : World) (hn : l.length = n) (hnb : n ≤ 1353245080339) (hI : ItemsIn w Q (VIn w Q (h + 1)) a l) :
    Calls Tryd.prog 28 #[.slice a n c] w (PlainPost (h + 1) n l w) := by
  have HI := Lib.hid hI
  have HN := Lib.hid hn
  clear hI hn
  go_enter Tryd.func28, Tryd.ntmps28
  go_wp2_with fail
  go_loopw [3] (fun i wr => ∃ (k : Nat), i = .int .i64 k ∧ k ≤ n ∧ Hid (Below w.heap.size w wr) ∧ Hid (∀ j (hj : j < l.length), j < k → Key.fits 34 l[j])) (fun i _ => n - (intOf i).toNat)
  case atStart => exact ⟨0, rfl, Nat.zero_le _, Below.refl _ _, fun j _ hj => absurd hj (Nat.not_lt_zero _)⟩
  case round =>
    obtain ⟨k, rfl, hk, HB, HFT⟩ := hrel
    by_cases hlt : k < n
    case neg =>
      obtain rfl : k = n := by omega
      have HIr : Hid (ItemsIn wr Q (VIn wr Q (h + 1)) a l) := HI.out.kept (Kept.of_below HB.out) (fun _ z => z) (fun _ _ z => VIn.keep HB.out z)
      go_wp2_with fail
      go_at_call 47
      refine (few_more Q h a k c l wr HN.out hnb HIr.out).mono ?_
      rintro e w1 ⟨b, rfl, hf, hb1⟩
      have HF := Lib.hid hf
      have HB1 : Hid (Below w.heap.size w w1) := HB.out.trans (hb1.mono HB.out.size)
      clear hf hb1
      go_wp2_with fail
      go_ret
      exact ⟨b, rfl, fun z => ⟨(HF.out z).1, (HF.out z).2, fun x hx => by obtain ⟨j, hj, rfl⟩ := List.getElem_of_mem hx; exact HFT.out j hj (by have := HN.out; omega)⟩, HB1.out⟩
    obtain ⟨g, o, hla, _, hall⟩ := HI.out.resolve_left (fun e => by have := HN.out; rw [e] at this; simp at this; omega)
    have hkl : k < l.length := by rw [HN.out]; exact hlt
    obtain ⟨v1, hsix, hV⟩ := hall k hkl
    obtain rfl := hla
    obtain ⟨ka, na, sa, ba, fa, la, bl, bc, fl, fc, ll, lc, rfl⟩ := VIn.shape (h := h + 1) hV
    have hkind : ka = l[k].kind := VIn.kind_eq (h := h + 1) hV
    have HKD := Lib.hid hkind
    have HV := Lib.hid (VIn.keep (h := h + 1) HB.out hV)
    have HSX := Lib.hid (hsix.keep HB.out)
    obtain ⟨s0, s1, s2, s3, s4, s5⟩ := HSX.out.cells
    have hsub : IntKind.i64.wrap ((k : Int) + 1) = (k : Int) + 1 := IntWalk.i64_in _ (by omega)
    have hnext : Key.fits 34 l[k] → ∀ j (hj : j < l.length), j < k + 1 → Key.fits 34 l[j] := fun hf j hj hjk => by
      by_cases e : j = k
      · subst e; exact hf
      · exact HFT.out j hj (by omega)
    have HNX := Lib.hid hnext
    clear hall hsix hV hkind hnext
    by_cases h0 : ka = 0
    · subst h0
      have hfz : Key.fits 34 l[k] := fits_zero HKD.out.symm
      have HFZ := Lib.hid (HNX.out hfz)
      clear hfz
      go_wp2_with fail
      go_at_call 11
      refine (same_any (h + 1) 1 Q (fun _ => True) _ Bson.zero _ _ wr HV.out (zero_in wr _)).mono ?_
      rintro e w1 ⟨b, rfl, _, hb1⟩
      have HB1 : Hid (Below w.heap.size w w1) := HB.out.trans (hb1.mono HB.out.size)
      clear hb1
      cases b
      · go_wp2_with fail
        go_ret
        exact ⟨false, rfl, nofun, HB1.out⟩
      · go_wp2_with fail
        go_roundw
        case rel => exact ⟨k + 1, by go_num, by omega, HB1, HFZ⟩
        case measure => simp [intOf]; omega
    · have hne : (ka != 0) = true := by rw [bne_iff_ne]; exact h0
      have heq : (ka == 0) = false := by rw [beq_eq_false_iff_ne]; exact h0
      have hb0 : Below wr.heap.size wr (wr.alloc (.cells #[.string ⟨#[]⟩, .int .i64 ka, .int .i64 na, .string sa, .slice ba bl bc, .slice fa fl fc, .slice la ll lc] 32)) := (Below.refl _ wr).alloc (Nat.le_refl _) _
      have HC := Lib.hid (may_fits (fun q => Q q ∨ q = wr.heap.size) (h + 1) (own_any (h + 2)) _ _ _ (doc_in (x := l[k]) (heap_alloc_new wr _) (.inr rfl) (show (⟨#[]⟩ : ByteArray).size ≤ 140737488355328 by decide) ((VIn.keep (h := h + 1) hb0 HV.out).kept (h := h + 1) (Kept.of_below (Below.refl _ _)) (fun q hq => .inl hq))))
      have HB0 : Hid (Below w.heap.size w (wr.alloc (.cells #[.string ⟨#[]⟩, .int .i64 ka, .int .i64 na, .string sa, .slice ba bl bc, .slice fa fl fc, .slice la ll lc] 32))) := HB.out.trans (hb0.mono HB.out.size)
      have HSX0 := Lib.hid (HSX.out.keep hb0)
      clear hb0
      go_wp2_with fail
      generalize (wr.alloc (.cells #[.string ⟨#[]⟩, .int .i64 ka, .int .i64 na, .string sa, .slice ba bl bc, .slice fa fl fc, .slice la ll lc] 32)) = W0 at *
      go_at_call 19
      refine HC.out.mono ?_
      rintro e w1 ⟨b, rfl, hf, hb1⟩
      have HB1 : Hid (Below w.heap.size w w1) := HB0.out.trans (hb1.mono HB0.out.size)
      have HF := Lib.hid hf
      obtain ⟨z0, z1, z2, z3, z4, z5⟩ := (HSX0.out.keep hb1).cells
      clear hb1 hf HC s0 s1 s2 s3 s4 s5
      cases b
      · go_wp2_with fail
        go_ret
        exact ⟨false, rfl, nofun, HB1.out⟩
      · have HFZ := Lib.hid (HNX.out (fits_in_doc (Key.legal.fits (HF.out rfl))))
        clear HF
        go_wp2_with fail
        go_roundw
        case rel => exact ⟨k + 1, by go_num, by omega, HB1, HFZ⟩
        case measure => simp [intOf]; omega
end Go.Proofs.YtpklnhmhbaakhaaDoor
end
section
namespace Go.Proofs.YtpklnhmhbaakhaaDoor
open Go.RowKit
open Seal
open Bson (Val)
section
variable {P : Program}
theorem oper_append_any {w : World} {o : Oper} {a : Act} {K : Act → World → Prop} {Q : Exit → Act → World → Prop} (s x : Operand) (t : TypeId)
    (ho : o.op = .call { callee := .builtin .append, args := #[s, x], argTypes := #[t, t] })
    (base : Nat) (e : TypeId) (i : TypeInfo) (z : Value) (size bytes : Nat) (ht : P.underlying t = some (.slice e)) (hi : P.info? e = some i) (hz : i.zero = some z)
    (hsize : i.size = size) (hby : i.bytes = bytes) (hzs : z.cells.size = size) (v : Value) (n : Nat) (xs : List Value) (hs : a.eval s = v) (hown : w.ownsRow base e size v n xs)
    (ad : Option Addr) (m c : Nat) (news : List Value) (hx : a.eval x = .slice ad m c) (hl : news.length = m * size) (hsz : 0 < size) (hnews : m = 0 ∨ ∃ b, ad = some b ∧ ∀ j u, news[j]? = some u → w.cell? (b.add j) = some u) (h1 : ∀ u ∈ news, u.oneCell' = true)
    (h63 : n + m ≤ maxLen) (hbytes : (n + m) * bytes ≤ 140737488355328) (hbase : base ≤ w.heap.size)
    (h : ∀ v' w', w'.ownsRow base e size v' (n + m) (xs ++ news) → Wrote w w' v v' → K (a.put o.dst v') w') : Oper.wp P o a w K Q := by
  obtain ⟨v', w', hr, h2, h3⟩ : ∃ v' w', (Builtin.append_ #[t, t] o.type #[v, .slice ad m c]).run P w = .ok v' w' ∧ w'.ownsRow base e size v' (n + m) (xs ++ news) ∧ Wrote w w' v v' := by
    rcases Nat.eq_zero_or_pos m with rfl | hm
    · obtain rfl : news = [] := List.eq_nil_of_length_eq_zero (by simpa using hl)
      exact ⟨v, w, run_zero w base t o.type e i ht hi size ad c v n xs hown, by simpa using hown, Wrote.refl _ _⟩
    · obtain ⟨b, rfl, hcell⟩ := hnews.resolve_left (by omega)
      obtain ⟨v', w', hr, h2, h3⟩ := run_append_sz (P := P) w base t o.type e i z size bytes ht hi hz hsize hby hzs v n xs hown b m c news hl hm hsz hcell h1 h63 hbytes hbase
      exact ⟨v', w', hr, h2, Wrote.of_lies h3⟩
  unfold Oper.wp execOp
  simp only [ho, resolve, invoke, builtin, Sem.run_bind, Sem.run_pure, Result.andThen_ok, List.map_toArray, List.map_cons, List.map_nil, hs, hx, hr]
  exact h v' w' h2 h3
end
theorem wrote_own {w w' : World} {base b0 : Nat} {v v' : Value} {e : TypeId} {size n : Nat} {xs : List Value} (hw : Wrote w w' v v') (hv : v.ownBlock = some b0) (ho : w'.ownsRow base e size v' n xs) : ∃ g, v'.ownBlock = some g ∧ (w.heap.size ≤ g ∨ some b0 = some g) ∧ g < w'.heap.size := by
  rcases hw.2 with h | ⟨g, h, hg⟩
  · exact ⟨b0, h.trans hv, .inr rfl, (ho.lt b0 (h.trans hv)).2⟩
  · exact ⟨g, h, .inl hg, (ho.lt g h).2⟩
/-- Just that value. -/
def oIs (u : Value) : OFact := ⟨false, fun v _ _ => v = u⟩
theorem oIs_keeps (u : Value) (base : Nat) : (oIs u).Keeps base := fun _ _ _ _ h _ _ => h
/-- A row of one's own of n values with these cells. -/
def oRow (base n : Nat) (xs : List Value) : OFact := ⟨true, fun v g w => w.ownsRow base 27 6 v n xs ∧ v.ownBlock = some g⟩
theorem oRow_keeps (base n : Nat) (xs : List Value) : (oRow base n xs).Keeps base := fun v g w w' h _ hg => ⟨owns_same h.1 (fun g' e => by
  have e2 : g' = g := Option.some.inj (e.symm.trans h.2)
  rw [e2]; exact hg rfl), h.2⟩
/-- A row of one value, just made. -/
def oOne (cs : Array Value) : OFact := ⟨true, fun v g w => v = .slice (some ⟨g, 0, none⟩) 1 1 ∧ w.heap[g]? = some (.cells cs 27 (0, 0))⟩
theorem oOne_keeps (cs : Array Value) (base : Nat) : (oOne cs).Keeps base := fun _ _ _ _ h _ hg => ⟨h.1, (hg rfl).trans h.2⟩
theorem any_keeps (base : Nat) : OFact.any.Keeps base := fun _ _ _ _ _ _ _ => trivial
/-- The key of one number. -/
theorem enc_num (k n : Int) (hk : k = 3 ∨ k = 4) (h0 : -9223372036854775808 ≤ n) (h1 : n ≤ 9223372036854775807) (w0 W : World) (hb : Below w0.heap.size w0 W) (hX : Maxl w0 w0.heap.size) :
    Calls Tryd.prog 24 #[.slice (some ⟨W.heap.size, 0, none⟩) 1 1, .slice none 0 0] (W.alloc (.cells #[.int .i64 k, .int .i64 n, .string ⟨#[]⟩, .slice none 0 0, .slice none 0 0, .slice none 0 0] 27)) fun e w' => ∃ a c, e = .returned (.slice a 9 c) ∧ SliceIs w' a (numK k n) ∧ Below W.heap.size W w' := by
  have hk2 : k = 3 ∨ k = 4 ∨ k = 10 ∨ k = 11 := by omega
  have hb2 : Below W.heap.size W (W.alloc (.cells #[.int .i64 k, .int .i64 n, .string ⟨#[]⟩, .slice none 0 0, .slice none 0 0, .slice none 0 0] 27)) := (Below.refl _ W).alloc (Nat.le_refl _) _
  have hXW : Maxl W W.heap.size := (hX.keep hb).mono hb.size
  refine (encode_key 1 (fun g => g = W.heap.size) (some ⟨W.heap.size, 0, none⟩) 1 1 [.mk k n ⟨#[]⟩ [] [] []] none 0 0 [] (W.alloc (.cells #[.int .i64 k, .int .i64 n, .string ⟨#[]⟩, .slice none 0 0, .slice none 0 0, .slice none 0 0] 27)) rfl (by decide)
    (one_items (heap_alloc_new W _) rfl (leaf_in _ _ k n (by omega) ⟨h0, h1⟩ 0)) rfl (.inl rfl) (by decide) (fun g hg => by rw [hg]; exact (Array.getElem?_eq_some_iff.1 (heap_alloc_new W _)).1) (hXW.newer hb2 |>.mono hb2.size) (by rw [numK_enc k n hk2, numK_length]; decide)).mono ?_
  rintro e w1 ⟨a', c', r, rfl, hS, hO, hf, _, hb1⟩
  have hr := hf (fun x hx => by rw [List.mem_singleton.1 hx]; exact fits_leaf' (x := .mk k n ⟨#[]⟩ [] [] []) (show k ≠ 6 by omega) (show k ≠ 7 by omega) 34)
  rw [numK_enc k n hk2] at hr
  subst hr
  rw [numK_length]
  exact ⟨a', c', rfl, hS, hb2.trans (hb1.mono hb2.size)⟩
theorem numK_alike (n : Int) : numK 3 n = numK 4 n := rfl
/-- The key of a row of at most thirty-one. -/
theorem encode_more (h : Nat) (Q : Nat → Prop) (a : Option Addr) (n c : Nat) (l : List Val) (s : Option Addr) (nd cd : Nat) (bl : List Bool) (w0 w : World) (hb : Below w0.heap.size w0 w) (hn : l.length = n) (hnb : n ≤ 31) (hI : ItemsIn w Q (VIn w Q h) a l)
    (hd : bl.length = nd) (hD : BoolsIn w Q s bl) (hndb : nd ≤ 140737488355328) (hQ : ∀ g, Q g → g < w.heap.size) (hX : Maxl w0 w0.heap.size) (hw : ∀ x ∈ l, wt h x ≤ 3000) (hf : ∀ x ∈ l, Key.fits 34 x) :
    Calls Tryd.prog 24 #[.slice a n c, .slice s nd cd] w fun e w' => ∃ (a' : Option Addr) (c' m : Nat), e = .returned (.slice a' m c') ∧ SliceIs w' a' (Key.encB 34 bl l 0) ∧ m = (Key.encB 34 bl l 0).length ∧ m ≤ 1030000 ∧ Below w.heap.size w w' := by
  have hlen : (Key.encB 34 bl l 0).length ≤ 1030000 := by
    have := enc_le 34 h bl l 0 (fun x hx => by obtain ⟨v, hv⟩ := hI.mem hx; exact hv.hgt) hw
    omega
  refine (encode_key h Q a n c l s nd cd bl w hn (by omega) hI hd hD hndb hQ ((hX.keep hb).mono hb.size) (by omega)).mono ?_
  rintro e w' ⟨a', c', r, rfl, hS, hO, hr, _, hb'⟩
  obtain rfl := hr hf
  exact ⟨a', c', _, rfl, hS, rfl, hlen, hb'⟩
theorem acc_of {w W : World} {v : Value} {QA : Nat → Prop} {h : Nat} {l : List Val} {news : List Value} {x : Val} {c0 c1 c2 c3 c4 c5 : Value} (hb : Below w.heap.size w W) (hq : ∀ g, QA g → g < w.heap.size) (hc : CellsAt w QA h l news) (hl : news.length = l.length * 6)
    (hx : VIn w QA h x (.agg #[c0, c1, c2, c3, c4, c5])) (ho : W.ownsRow w.heap.size 27 6 v (l.length + 1) (news ++ [c0, c1, c2, c3, c4, c5])) : Acc W w.heap.size v QA h (l ++ [x]) (news ++ [c0, c1, c2, c3, c4, c5]) := by
  have hv : ∀ {y : Val} {u : Value}, VIn w QA h y u → VIn W (fun g => QA g ∧ v.ownBlock ≠ some g) h y u := fun hy => VIn.kept (Kept.of_below hb) (fun g hg => ⟨hg, fun e => by have := (ho.lt g e).1; have := hq g hg; omega⟩) hy
  refine ⟨by rw [List.length_append]; exact ho, fun i hi => ?_⟩
  rw [List.length_append, List.length_singleton] at hi
  rcases Nat.lt_or_ge i l.length with hlt | hge
  · obtain ⟨d0, d1, d2, d3, d4, d5, h0, h1, h2, h3, h4, h5, hd⟩ := hc i hlt
    have e : ∀ j, j < 6 → (news ++ [c0, c1, c2, c3, c4, c5])[i * 6 + j]? = news[i * 6 + j]? := fun j hj => List.getElem?_append_left (by omega)
    refine ⟨d0, d1, d2, d3, d4, d5, (e 0 (by omega)).trans h0, (e 1 (by omega)).trans h1, (e 2 (by omega)).trans h2, (e 3 (by omega)).trans h3, (e 4 (by omega)).trans h4, (e 5 (by omega)).trans h5, ?_⟩
    rw [List.getElem_append_left hlt]
    exact hv hd
  · obtain rfl : i = l.length := by omega
    have e : ∀ j, (news ++ [c0, c1, c2, c3, c4, c5])[l.length * 6 + j]? = [c0, c1, c2, c3, c4, c5][j]? := fun j => by
      rw [List.getElem?_append_right (by omega)]; congr 1; omega
    refine ⟨c0, c1, c2, c3, c4, c5, e 0, e 1, e 2, e 3, e 4, e 5, ?_⟩
    rw [List.getElem_append_right (Nat.le_refl _)]
    simp only [Nat.sub_self, List.getElem_cons_zero]
    exact hv hx
def alRet : List (Option Nat) := [some 2, none, some 5, none, none, some 12, some 8, none, some 11, none, none, some 13, none, none]
theorem al_ret (i : Nat) (c : Option Nat) (h : ∀ j, j < 14 → alRet.getD j none = some i → c = some j) : ∀ j, alRet.getD j none = some i → c = some j := fun j hj => by
  rcases Nat.lt_or_ge j 14 with hl | hl
  · exact h j hl hj
  · have e : alRet.getD j none = none := by
      rw [List.getD_eq_getElem?_getD, List.getElem?_eq_none (by show 14 ≤ j; exact hl)]; rfl
    rw [e] at hj; cases hj
def alFs (base m : Nat) (s : Value) (news xs ys : List Value) : List OFact :=
  [oRow base 0 [], oIs s, oRow base m news, oIs (.agg xs.toArray), oOne xs.toArray, oRow base (m + 1) (news ++ xs), oRow base 0 [], oIs s, oRow base m news, oIs (.agg ys.toArray), oOne ys.toArray, oRow base (m + 1) (news ++ ys), oRow base (m + 1) (news ++ xs), oRow base (m + 1) (news ++ ys)]
theorem al_keeps (base m : Nat) (s : Value) (news xs ys : List Value) : ∀ j, (ofactAt (alFs base m s news xs ys) j).Keeps base
  | 0 => oRow_keeps _ _ _ | 1 => oIs_keeps _ _ | 2 => oRow_keeps _ _ _ | 3 => oIs_keeps _ _ | 4 => oOne_keeps _ _ | 5 => oRow_keeps _ _ _
  | 6 => oRow_keeps _ _ _ | 7 => oIs_keeps _ _ | 8 => oRow_keeps _ _ _ | 9 => oIs_keeps _ _ | 10 => oOne_keeps _ _ | 11 => oRow_keeps _ _ _ | 12 => oRow_keeps _ _ _ | 13 => oRow_keeps _ _ _
  | _ + 14 => any_keeps _
theorem src_keep {w W : World} {a : Option Addr} {m : Nat} {news : List Value} (hb : Below w.heap.size w W) (h : m = 0 ∨ ∃ b, a = some b ∧ ∀ j u, news[j]? = some u → w.cell? (b.add j) = some u) : m = 0 ∨ ∃ b, a = some b ∧ ∀ j u, news[j]? = some u → W.cell? (b.add j) = some u := by
  rcases h with h | ⟨b, e, h⟩
  · exact .inl h
  · exact .inr ⟨b, e, fun j u hu => (Below.cell hb (p := b.add j) (World.block_lt_of_cell? w _ (h j u hu))).trans (h j u hu)⟩
theorem run_makeBoolsK (n : Nat) (hn : n ≤ 4096) (u : World) : (Instr.makeSlice 54 (.int .i64 (n : Int)) (.int .i64 (n : Int))).run Tryd.prog u = .ok (.slice (some ⟨u.heap.size, 0, none⟩) n n) (u.alloc (.cells (madeCells #[.bool false] n) 4)) := by
  obtain ⟨i0, hi, hz0, hz1, hz2⟩ := info_parts (show (Tryd.prog.info? 4).map (fun i => (i.zero, i.size, i.bytes)) = some (some (.bool false), 1, 1) by kernel_rfl)
  have h := run_make (P := Tryd.prog) u 54 4 i0 (.bool false) Tryd.underlying54 hi hz0 .i64 .i64 n n (by omega) (Int.le_refl _) (by rw [hz2]; omega) (by omega)
  simpa [hz1, Value.cells] using h
theorem bools_flag (w : World) (n m : Nat) (hm : m < n) : BoolsIn (w.alloc (.cells ((madeCells #[.bool false] n).setIfInBounds m (.bool true)) 4)) (fun g => g = w.heap.size) (some ⟨w.heap.size, 0, none⟩) ((List.replicate n false).set m true) ∧
    (w.alloc (.cells (madeCells #[.bool false] n) 4)).cell? ⟨w.heap.size, m, none⟩ = some (.bool false) ∧ (w.alloc (.cells (madeCells #[.bool false] n) 4)).frozen? ⟨w.heap.size, m, none⟩ = false := by
  have hr := heap_alloc_new w (.cells (madeCells #[.bool false] n) 4)
  have hl : ∀ j, j < n → (madeCells #[Value.bool false] n)[j]? = some (.bool false) := fun j hj => by
    rw [← Array.getElem?_toList, toList_madeCells_one, List.getElem?_replicate, if_pos hj]
  have hz : (madeCells #[Value.bool false] n).size = n := by rw [← Array.length_toList, toList_madeCells_one, List.length_replicate]
  have hs := heap_alloc_new w (.cells ((madeCells #[.bool false] n).setIfInBounds m (.bool true)) 4)
  refine ⟨.inr ⟨w.heap.size, 0, rfl, rfl, fun i hi => ?_⟩, (cell_of_row _ _ m _ _ _ hr).trans (hl m hm), frozen_of_row _ _ m _ _ hr⟩
  rw [List.length_set, List.length_replicate] at hi
  rw [Nat.zero_add, cell_of_row _ _ i _ _ _ hs]
  by_cases e : m = i
  · subst e
    rw [Array.getElem?_setIfInBounds_self_of_lt (by omega), List.getElem_set_self]
  · rw [Array.getElem?_setIfInBounds_ne e, hl i hi, List.getElem_set_ne e, List.getElem_replicate]
theorem app_all {α : Type} {p : α → Prop} {l : List α} {x : α} (h1 : ∀ z ∈ l, p z) (h2 : p x) : ∀ z ∈ l ++ [x], p z := fun z hz => by
  rcases List.mem_append.1 hz with h | h
  · exact h1 z h
  · rw [List.mem_singleton.1 h]; exact h2
end Go.Proofs.YtpklnhmhbaakhaaDoor
end
