/- AppendSz, BsonBack. -/
import Derived.Test.YtdihelpimpkfoaaDoorMg0
set_option maxRecDepth 100000
section
namespace Go.Proofs.YtdihelpimpkfoaaDoor
open Go.RowKit
section
variable {P : Program} (w : World)
theorem run_append_sz (base : Nat) (t ty e : TypeId) (i : TypeInfo) (z : Value) (size bytes : Nat) (ht : P.underlying t = some (.slice e)) (hi : P.info? e = some i) (hz : i.zero = some z)
    (hsize : i.size = size) (hby : i.bytes = bytes) (hzs : z.cells.size = size) (v : Value) (n : Nat) (xs : List Value) (hown : w.ownsRow base e size v n xs)
    (a : Addr) (m c : Nat) (news : List Value) (hl : news.length = m * size) (hm : 0 < m) (_ : 0 < size) (hnews : ∀ j u, news[j]? = some u → w.cell? (a.add j) = some u) (h1 : ∀ u ∈ news, u.oneCell' = true)
    (h63 : n + m ≤ maxLen) (hbytes : (n + m) * bytes ≤ 140737488355328) (hbase : base ≤ w.heap.size) :
    ∃ v' w', (Builtin.append_ #[t, t] ty #[v, .slice (some a) m c]).run P w = .ok v' w' ∧ w'.ownsRow base e size v' (n + m) (xs ++ news) ∧ Lies w w' v v' := by
  subst hby
  have hsmall : n + m ≤ 9223372036854775807 := by simp only [maxLen] at h63; omega
  have hxl : xs.length = n * size := hown.1
  have grown : ∀ (old : Nat), old < n + m →
      (w.drew.alloc (.cells (xs.toArray ++ news.toArray ++ Builtin.zeroCells z.cells (grownCap w (n + m) old e - (n + m))) e)).ownsRow base e size
        (.slice (some ⟨w.heap.size, 0, none⟩) (n + m) (grownCap w (n + m) old e)) (n + m) (xs ++ news) ∧
      w.grownBy (w.drew.alloc (.cells (xs.toArray ++ news.toArray ++ Builtin.zeroCells z.cells (grownCap w (n + m) old e - (n + m))) e)) none := by
    intro old ho
    have hge := grownCap_ge w (n + m) old e
    have hcm : grownCap w (n + m) old e ≤ maxLen := grownCap_le_maxLen w (n + m) old e h63
    have e1 : (xs ++ news).length = (n + m) * size := by rw [List.length_append, hxl, hl, Nat.add_mul]
    refine ⟨⟨e1, .inr ⟨w.heap.size, _, _, rfl, hbase, heap_alloc_new w.drew _, hge, hcm, ?_, ?_⟩⟩, ⟨rfl, rfl, rfl, by simp, fun k hk _ => Below.heap_alloc w.drew _ k hk⟩⟩
    · simp only [Array.size_append, List.size_toArray, size_zeroCells, hzs]
      rw [hxl, hl, ← Nat.add_mul, ← Nat.add_mul]
      congr 1; omega
    · simp only [Array.toList_append, List.append_assoc]
      rw [← List.append_assoc]
      exact List.take_left' e1
  rcases hown.2 with ⟨rfl, rfl⟩ | ⟨g, cap, cur, rfl, hbg, hg, hnc, hcm, hcs, htake⟩
  · have hx : xs = [] := List.eq_nil_of_length_eq_zero (by omega)
    subst hx
    have hr := run_append_nil (P := P) w t ty e i z ht hi hz a m c news (by rw [hsize]; exact hl) hnews hm (by omega) (by have hb := hbytes; simp only [Nat.zero_add] at hb; omega)
    have hgr := grown 0 (by omega)
    simp only [Nat.zero_add, List.nil_append, Array.empty_append] at hgr ⊢
    exact ⟨_, _, hr, hgr.1, .inr ⟨rfl, hgr.2⟩⟩
  · by_cases hroom : n + m ≤ cap
    · obtain ⟨w', hr, h2, h3⟩ := run_append_fits (P := P) w base t ty e i size ht hi hsize g n cap xs hown a m c news hl hnews h1 hroom
      exact ⟨_, w', hr, h2, .inl ⟨rfl, h3⟩⟩
    · have holds : ∀ j u, xs[j]? = some u → w.cell? ((⟨g, 0, none⟩ : Addr).add j) = some u := hown.cells (g := g) rfl
      have hr := run_append_grow (P := P) w t ty e i z ht hi hz ⟨g, 0, none⟩ n cap xs (by rw [hsize]; exact hxl) holds a m c news (by rw [hsize]; exact hl) hnews (by omega) (by omega) (growslice_fits (by omega) hbytes)
      have hgr := grown cap (by omega)
      exact ⟨_, _, hr, hgr.1, .inr ⟨rfl, hgr.2⟩⟩
theorem wpList_append_sz {ops : Array Oper} {rest : List Oper} {o : Oper} {a : Act} {Q : Exit → Act → World → Prop} (hgd : o.guard = none) (s x : Operand) (t : TypeId)
    (ho : o.op = .call { callee := .builtin .append, args := #[s, x], argTypes := #[t, t] })
    (base : Nat) (e : TypeId) (i : TypeInfo) (z : Value) (size bytes : Nat) (ht : P.underlying t = some (.slice e)) (hi : P.info? e = some i) (hz : i.zero = some z)
    (hsize : i.size = size) (hby : i.bytes = bytes) (hzs : z.cells.size = size) (v : Value) (n : Nat) (xs : List Value) (hs : a.eval s = v) (hown : w.ownsRow base e size v n xs)
    (ad : Addr) (m c : Nat) (news : List Value) (hx : a.eval x = .slice (some ad) m c) (hl : news.length = m * size) (hm : 0 < m) (hsz : 0 < size) (hnews : ∀ j u, news[j]? = some u → w.cell? (ad.add j) = some u) (h1 : ∀ u ∈ news, u.oneCell' = true)
    (h63 : n + m ≤ maxLen) (hbytes : (n + m) * bytes ≤ 140737488355328) (hbase : base ≤ w.heap.size)
    (h : ∀ v' w', w'.ownsRow base e size v' (n + m) (xs ++ news) → Lies w w' v v' → wpList P ops Q rest (a.put o.dst v') w') : wpList P ops Q (o :: rest) a w := by
  refine wpList_plain hgd fun K hK => ?_
  obtain ⟨v', w', hr, h2, h3⟩ := run_append_sz (P := P) w base t o.type e i z size bytes ht hi hz hsize hby hzs v n xs hown ad m c news hl hm hsz hnews h1 h63 hbytes hbase
  unfold Oper.wp execOp
  simp only [ho, resolve, invoke, builtin, Sem.run_bind, Sem.run_pure, Result.andThen_ok, List.map_toArray, List.map_cons, List.map_nil, hs, hx, hr]
  exact hK _ _ (h v' w' h2 h3)
end
end Go.Proofs.YtdihelpimpkfoaaDoor
end
section
namespace Bson
open Go
theorem none_size : none_.size = 0 := rfl
theorem le_lt (x n : Nat) : ∀ c ∈ le x n, c < 256 := by
  induction n generalizing x with
  | zero => simp [le]
  | succ n ih =>
    intro c hc
    rw [le, List.mem_cons] at hc
    rcases hc with rfl | hc
    · omega
    · exact ih _ c hc
theorem leI_lt (x : Int) (n : Nat) : ∀ c ∈ leI x n, c < 256 := le_lt _ _
theorem signed_leI4 (x : Int) (h0 : -2147483648 ≤ x) (h1 : x < 2147483648) : signed (leI x 4) = x :=
  signed_leI x 4 (by simpa using h0) (by simpa using h1) (by decide)
theorem signed_leI8 (x : Int) (h0 : -9223372036854775808 ≤ x) (h1 : x < 9223372036854775808) : signed (leI x 8) = x :=
  signed_leI x 8 (by simpa using h0) (by simpa using h1) (by decide)
theorem signed_leI1 (x : Int) (h0 : -128 ≤ x) (h1 : x < 128) : signed (leI x 1) = x :=
  signed_leI x 1 (by simpa using h0) (by simpa using h1) (by decide)
theorem signed_bd (l : List Nat) (h : ∀ c ∈ l, c < 256) : -((256 ^ l.length / 2 : Nat) : Int) ≤ signed l ∧ signed l < ((256 ^ l.length / 2 : Nat) : Int) ∨ l = [] := by
  by_cases hl : l = []
  · exact .inr hl
  · left
    have hlt := leN_lt l h
    have hp : 0 < l.length := List.length_pos_iff.2 hl
    have hd : 256 ^ l.length = 2 * (256 ^ l.length / 2) := by
      obtain ⟨m, hm⟩ : ∃ m, l.length = m + 1 := ⟨l.length - 1, by omega⟩
      rw [hm, Nat.pow_succ]; omega
    unfold signed
    generalize 256 ^ l.length = Q at *
    split <;> omega
/-! what was read makes the bytes that it was read from -/
theorem number_ok {k : Int} {n : Nat} {l r : List Nat} {v : Val} (h : number k n l = .ok v r) (hl : ∀ c ∈ l, c < 256) : ∃ bs, l = bs ++ r ∧ bs.length = n ∧ v = .mk k (signed bs) none_ [] [] [] ∧ leI (signed bs) n = bs ∧ ∀ c ∈ bs, c < 256 := by
  obtain ⟨x, r', hx, h'⟩ := Res.bind_ok h
  clear h; have h := h'; clear h'
  obtain ⟨rfl, hn⟩ := take_ok hx
  injection h with h1 h2
  subst h1; subst h2
  have hx' : ∀ c ∈ x, c < 256 := fun c hc => hl c (by simp [hc])
  exact ⟨x, rfl, hn, rfl, by rw [← hn]; exact leI_signed x hx', hx'⟩
theorem text_ok {l r : List Nat} {v : Val} (h : text l = .ok v r) (hl : ∀ c ∈ l, c < 256) : ∃ bs, l = bs ++ r ∧ scalar v = some bs ∧ code v.kind = 2 := by
  obtain ⟨x, r', hx, h'⟩ := Res.bind_ok h
  clear h; have h := h'; clear h'
  obtain ⟨rfl, hn⟩ := take_ok hx
  split at h
  · cases h
  rename_i hlow
  obtain ⟨t, r2, ht, h'⟩ := Res.bind_ok h
  clear h; have h := h'; clear h'
  obtain ⟨rfl, htn⟩ := take_ok ht
  split at h
  · cases h
  rename_i hlast
  split at h
  · cases h
  rename_i hu
  injection h with h1 h2
  subst h1; subst h2
  have hx' : ∀ c ∈ x, c < 256 := fun c hc => hl c (by simp [hc])
  have ht' : ∀ c ∈ t.take (t.length - 1), c < 256 := fun c hc => hl c (by simp [List.mem_of_mem_take hc])
  have hlen : t.length = (t.length - 1) + 1 := by omega
  have et : t = t.take (t.length - 1) ++ [0] := by
    have h0 : t.getD (t.length - 1) 0 = 0 := by simpa using hlast
    rw [List.getD_eq_getElem?_getD, List.getElem?_eq_getElem (by omega)] at h0
    have := List.take_append_drop (t.length - 1) t
    rw [List.drop_eq_getElem_cons (by omega), List.drop_of_length_le (by omega)] at this
    simp only [Option.getD_some] at h0
    rw [h0] at this
    exact this.symm
  have es : ((ofBytes (t.take (t.length - 1))).size : Int) + 1 = signed x := by
    rw [← bytes_length, bytes_ofBytes _ ht']; simp; omega
  refine ⟨x ++ t, by simp, ?_, by simp [Val.kind, code]⟩
  have hb : bare (.mk 5 0 (ofBytes (t.take (t.length - 1))) [] [] []) false true false false false = true := by simp [bare, Val.n, Val.b, Val.f, Val.l]
  have hu' : u8 (ofBytes (t.take (t.length - 1))) = true := by simpa using hu
  simp only [scalar, scalarP, Val.kind, Val.s, hb, hu', es, bytes_ofBytes _ ht']
  rw [← et, show leI (signed x) 4 = x by rw [← hn]; exact leI_signed x hx']
  simp
theorem blob_ok {l r : List Nat} {v : Val} (h : blob l = .ok v r) (hl : ∀ c ∈ l, c < 256) : ∃ bs, l = bs ++ r ∧ scalar v = some bs ∧ code v.kind = 5 := by
  obtain ⟨x, r', hx, h'⟩ := Res.bind_ok h
  clear h; have h := h'; clear h'
  obtain ⟨rfl, hn⟩ := take_ok hx
  split at h
  · cases h
  rename_i hlow
  obtain ⟨t, r2, ht, h'⟩ := Res.bind_ok h
  clear h; have h := h'; clear h'
  obtain ⟨rfl, htn⟩ := take_ok ht
  injection h with h1 h2
  subst h1; subst h2
  simp only [not_or, Decidable.not_not] at hlow
  have hx' : ∀ c ∈ x.take 4, c < 256 := fun c hc => hl c (by simp [List.mem_of_mem_take hc])
  have h4 : (x.take 4).length = 4 := by simp; omega
  have ex : x = x.take 4 ++ [0] := by
    have h0 := hlow.2
    rw [List.getD_eq_getElem?_getD, List.getElem?_eq_getElem (by omega)] at h0
    have := List.take_append_drop 4 x
    rw [List.drop_eq_getElem_cons (by omega), List.drop_of_length_le (by omega)] at this
    simp only [Option.getD_some] at h0
    rw [h0] at this
    exact this.symm
  refine ⟨x ++ t, by simp, ?_, by simp [Val.kind, code]⟩
  have hb : bare (.mk 8 0 none_ t [] []) false false true false false = true := by simp [bare, Val.n, Val.s, Val.f, Val.l, none_size]
  have es : (t.length : Int) = signed (x.take 4) := by omega
  simp only [scalar, scalarP, Val.kind, Val.b, hb, es]
  rw [show leI (signed (x.take 4)) 4 = x.take 4 by have := leI_signed _ hx'; rwa [h4] at this]
  rw [show x ++ t = x.take 4 ++ (0 :: t) by conv => lhs; rw [ex]
                                            simp]
  simp
theorem scalar_kind {v : Val} {bs : List Nat} (h : scalar v = some bs) : v.kind ≠ 6 ∧ v.kind ≠ 7 := by
  unfold scalar scalarP at h
  generalize v.kind = k at *
  refine ⟨?_, ?_⟩ <;> (rintro rfl; rw [if_neg (by decide), if_neg (by decide), if_neg (by decide), if_neg (by decide), if_neg (by decide), if_neg (by decide), if_neg (by decide)] at h; cases h)
theorem scalarOf_ok {c : Nat} {l r : List Nat} {v : Val} (h : scalarOf c l = .ok v r) (hl : ∀ c ∈ l, c < 256) : ∃ bs, l = bs ++ r ∧ scalar v = some bs ∧ code v.kind = c ∧ v.kind ≠ 6 ∧ v.kind ≠ 7 := by
  unfold scalarOf at h
  have fin : ∀ bs : List Nat, l = bs ++ r → scalar v = some bs → code v.kind = c → ∃ bs, l = bs ++ r ∧ scalar v = some bs ∧ code v.kind = c ∧ v.kind ≠ 6 ∧ v.kind ≠ 7 := by
    intro bs h1 h2 h3
    exact ⟨bs, h1, h2, h3, (scalar_kind h2).1, (scalar_kind h2).2⟩
  have flt : ∀ n, float n l = .ok v r → False := by
    intro n h
    obtain ⟨_, _, _, h⟩ := Res.bind_ok h
    cases h
  by_cases hc : c = 0x01
  · rw [if_pos hc] at h
    exact (flt _ h).elim
  rw [if_neg hc] at h
  clear hc
  by_cases hc : c = 0x02
  · rw [if_pos hc] at h
    subst_vars; obtain ⟨bs, h1, h2, h3⟩ := text_ok h hl; exact fin bs h1 h2 h3
  rw [if_neg hc] at h
  clear hc
  by_cases hc : c = 0x05
  · rw [if_pos hc] at h
    subst_vars; obtain ⟨bs, h1, h2, h3⟩ := blob_ok h hl; exact fin bs h1 h2 h3
  rw [if_neg hc] at h
  clear hc
  by_cases hc : c = 0x07
  · rw [if_pos hc] at h
    subst_vars
    obtain ⟨x, r', hx, h'⟩ := Res.bind_ok h
    clear h; have h := h'; clear h'
    obtain ⟨rfl, hn⟩ := take_ok hx
    injection h with h1 h2
    subst h1; subst h2
    exact fin x rfl (by simp [scalar, scalarP, Val.kind, bare, Val.n, Val.s, Val.f, Val.l, Val.b, none_size, hn]) (by simp [Val.kind, code])
  rw [if_neg hc] at h
  clear hc
  by_cases hc : c = 0x08
  · rw [if_pos hc] at h
    subst_vars
    obtain ⟨x, r', hx, h'⟩ := Res.bind_ok h
    clear h; have h := h'; clear h'
    obtain ⟨rfl, hn⟩ := take_ok hx
    split at h
    · cases h
    rename_i hb
    injection h with h1 h2
    subst h1; subst h2
    have hx' : ∀ c ∈ x, c < 256 := fun c hc => hl c (by simp [hc])
    refine fin x rfl ?_ (by simp [Val.kind, code])
    have e : leI (signed x) 1 = x := by rw [← hn]; exact leI_signed x hx'
    have hor : (signed x == 0 || signed x == 1) = true := by
      simp only [Bool.or_eq_true, beq_iff_eq]; omega
    simp [scalar, scalarP, Val.kind, bare, Val.n, Val.s, Val.f, Val.l, Val.b, none_size, hor, e]
  rw [if_neg hc] at h
  clear hc
  by_cases hc : c = 0x09
  · rw [if_pos hc] at h
    subst_vars
    obtain ⟨bs, h1, h2, rfl, h4, h5⟩ := number_ok h hl
    have hs := signed_bd bs h5
    rw [h2] at hs
    have hs' : -9223372036854775808 ≤ signed bs ∧ signed bs < 9223372036854775808 := by
      rcases hs with hs | hs
      · simpa using hs
      · rw [hs] at h2; simp at h2
    exact fin bs h1 (by simp [scalar, scalarP, Val.kind, bare, Val.n, Val.s, Val.f, Val.l, Val.b, none_size, h4, hs'.1, hs'.2]) (by simp [Val.kind, code])
  rw [if_neg hc] at h
  clear hc
  by_cases hc : c = 0x0a
  · rw [if_pos hc] at h
    subst_vars
    injection h with h1 h2
    subst h1; subst h2
    exact fin [] rfl (by simp [scalar, scalarP, Val.kind, bare, Val.n, Val.s, Val.f, Val.l, Val.b, none_size]) (by simp [Val.kind, code])
  rw [if_neg hc] at h
  clear hc
  by_cases hc : c = 0x10
  · rw [if_pos hc] at h
    subst_vars
    obtain ⟨bs, h1, h2, rfl, h4, h5⟩ := number_ok h hl
    have hs := signed_bd bs h5
    rw [h2] at hs
    have hs' : -2147483648 ≤ signed bs ∧ signed bs < 2147483648 := by
      rcases hs with hs | hs
      · simpa using hs
      · rw [hs] at h2; simp at h2
    exact fin bs h1 (by simp [scalar, scalarP, Val.kind, bare, Val.n, Val.s, Val.f, Val.l, Val.b, none_size, h4, hs'.1, hs'.2]) (by simp [Val.kind, code])
  rw [if_neg hc] at h
  clear hc
  by_cases hc : c = 0x12
  · rw [if_pos hc] at h
    subst_vars
    obtain ⟨bs, h1, h2, rfl, h4, h5⟩ := number_ok h hl
    have hs := signed_bd bs h5
    rw [h2] at hs
    have hs' : -9223372036854775808 ≤ signed bs ∧ signed bs < 9223372036854775808 := by
      rcases hs with hs | hs
      · simpa using hs
      · rw [hs] at h2; simp at h2
    exact fin bs h1 (by simp [scalar, scalarP, Val.kind, bare, Val.n, Val.s, Val.f, Val.l, Val.b, none_size, h4, hs'.1, hs'.2]) (by simp [Val.kind, code])
  rw [if_neg hc] at h
  clear hc
  by_cases hc : c = 0x13
  · rw [if_pos hc] at h
    exact (flt _ h).elim
  rw [if_neg hc] at h
  clear hc
  by_cases hc : c = 0x7f
  · rw [if_pos hc] at h
    subst_vars
    injection h with h1 h2
    subst h1; subst h2
    exact fin [] rfl (by simp [scalar, scalarP, Val.kind, bare, Val.n, Val.s, Val.f, Val.l, Val.b, none_size]) (by simp [Val.kind, code])
  rw [if_neg hc] at h
  clear hc
  by_cases hc : c = 0xff
  · rw [if_pos hc] at h
    subst_vars
    injection h with h1 h2
    subst h1; subst h2
    exact fin [] rfl (by simp [scalar, scalarP, Val.kind, bare, Val.n, Val.s, Val.f, Val.l, Val.b, none_size]) (by simp [Val.kind, code])
  · rw [if_neg hc] at h; cases h
theorem name_ok {l r : List Nat} {s : ByteArray} (h : name l = .ok s r) (hl : ∀ c ∈ l, c < 256) : l = bytes s ++ (0 :: r) ∧ nameMay s = true := by
  unfold name at h
  split at h
  · cases h
  rename_i hk
  split at h
  · cases h
  rename_i hu
  split at h
  · cases h
  rename_i hm
  injection h with h1 h2
  subst h1; subst h2
  generalize hj : l.findIdx (· == 0) = k at *
  have hkl : k < l.length := by
    have := List.findIdx_le_length (xs := l) (p := (· == 0))
    omega
  have h0 : l[k] = 0 := by
    subst hj
    simpa using List.findIdx_getElem (w := hkl)
  have ht : ∀ c ∈ l.take k, c < 256 := fun c hc => hl c (List.mem_of_mem_take hc)
  rw [bytes_ofBytes _ ht]
  refine ⟨?_, ?_⟩
  · conv => lhs; rw [← List.take_append_drop k l, List.drop_eq_getElem_cons hkl, h0]
  · have hz : (0 : Nat) ∉ bytes (ofBytes (l.take k)) := by
      rw [bytes_ofBytes _ ht]
      intro hm0
      obtain ⟨i, hi, he⟩ := List.getElem_of_mem hm0
      have hi' : i < k := by simp at hi; omega
      have := List.not_of_lt_findIdx (p := (· == 0)) (xs := l) (i := i) (by omega)
      simp at he
      simp [he] at this
    have hsz : (ofBytes (l.take k)).size = k := by rw [← bytes_length, bytes_ofBytes _ ht]; simp; omega
    have hu' : u8 (ofBytes (l.take k)) = true := by simpa using hu
    simp [nameMay, hz, hsz, hu']; omega
theorem name_app {s : ByteArray} (h : nameMay s = true) (r : List Nat) : name (bytes s ++ (0 :: r)) = .ok s r := by
  simp only [nameMay, Bool.and_eq_true, decide_eq_true_eq] at h
  obtain ⟨⟨h0, hs⟩, hu⟩ := h
  have hf : (bytes s ++ (0 :: r)).findIdx (· == 0) = (bytes s).length := by
    rw [List.findIdx_append]
    have : (bytes s).findIdx (· == 0) = (bytes s).length := by
      apply List.findIdx_eq_length.2
      intro x hx
      simp only [beq_eq_false_iff_ne]
      rintro rfl; exact h0 hx
    rw [this, if_neg (by omega)]
    simp [List.findIdx_cons]
  unfold name
  rw [hf, if_neg (by simp)]
  have ht : (bytes s ++ 0 :: r).take (bytes s).length = bytes s := by simp
  rw [ht, ofBytes_bytes, hu, if_neg (by simp), bytes_length, if_neg (by omega)]
  congr 1
  rw [← bytes_length]; simp
/-! digits -/
theorem dec_inj : ∀ a b : Nat, Lib.decDigits a = Lib.decDigits b → a = b := by
  intro a
  induction a using Nat.strongRecOn with
  | _ a ih =>
    intro b h
    have hlen : ∀ u, Lib.decDigits u ≠ [] := by
      intro u; rw [Lib.decDigits]; split <;> simp
    have e1 : ∀ u : Nat, u < 10 → (UInt8.ofNat (48 + u)).toNat = 48 + u := fun u hu => by simp; omega
    have ea := Lib.decDigits.eq_def a
    have eb := Lib.decDigits.eq_def b
    rw [ea, eb] at h
    clear ea eb
    split at h <;> split at h
    · simp only [List.cons.injEq, and_true] at h
      have := congrArg UInt8.toNat h
      rw [e1 _ (by omega), e1 _ (by omega)] at this; omega
    · have hq := congrArg List.length h
      have hp := List.length_pos_iff.2 (hlen (b / 10))
      simp only [List.length_append, List.length_singleton] at hq
      omega
    · have hq := congrArg List.length h
      have hp := List.length_pos_iff.2 (hlen (a / 10))
      simp only [List.length_append, List.length_singleton] at hq
      omega
    · obtain ⟨h1, h2⟩ := List.append_inj' h rfl
      simp only [List.cons.injEq, and_true] at h2
      have h3 := congrArg UInt8.toNat h2
      rw [e1 _ (by omega), e1 _ (by omega)] at h3
      have := ih (a / 10) (by omega) (b / 10) h1
      omega
theorem digits_inj {a b : Nat} (h : digits a = digits b) : a = b := by
  apply dec_inj
  have : (digits a).data.toList = (digits b).data.toList := by rw [h]
  simpa [digits] using this
theorem any_name (acc : List (ByteArray × Val)) (s : ByteArray) : acc.any (fun p => decide (p.1 = s)) = true ↔ s ∈ acc.map (·.1) := by
  simp only [List.any_eq_true, decide_eq_true_eq, List.mem_map]
/-- What fields make the bytes that they were read from. -/
theorem loop_ok {val : Nat → List Nat → Res Val} {e : Val → Option (List Nat)} (hv : ∀ c l v r, val c l = .ok v r → (∀ c ∈ l, c < 256) → ∃ bs, l = bs ++ r ∧ e v = some bs ∧ code v.kind = c) (list : Bool) :
    ∀ (g : Nat) (acc : List (ByteArray × Val)) (l : List Nat) (fs : List (ByteArray × Val)) (r : List Nat), loop val list g acc l = .ok fs r → (∀ c ∈ l, c < 256) →
      ∃ new bs, fs = acc ++ new ∧ l = bs ++ (0 :: r) ∧ row e new = some bs ∧ ((acc.map (·.1)).Nodup → (fs.map (·.1)).Nodup) ∧ (list = true → ∀ i, i < new.length → (new.map (·.1))[i]? = some (digits (acc.length + i)))
  | 0, _, _, _, _, h, _ => by cases h
  | _ + 1, _, [], _, _, h, _ => by cases h
  | g + 1, acc, c :: l, fs, r, h, hl => by
    rw [loop] at h
    split at h
    · rename_i hc
      injection h with h1 h2
      subst h1; subst h2; subst hc
      exact ⟨[], [], by simp, by simp, rfl, fun h => h, fun _ i hi => by simp at hi⟩
    split at h
    · cases h
    obtain ⟨s, r2, hs, h'⟩ := Res.bind_ok h
    clear h; have h := h'; clear h'
    split at h
    · cases h
    rename_i hlist
    split at h
    · cases h
    rename_i htwice
    obtain ⟨v, r3, hvv, h'⟩ := Res.bind_ok h
    clear h; have h := h'; clear h'
    obtain ⟨rfl, hmay⟩ := name_ok hs (fun x hx => hl x (by simp [hx]))
    obtain ⟨bs, rfl, hbs, hcode⟩ := hv _ _ _ _ hvv (fun x hx => hl x (by simp [hx]))
    obtain ⟨new, nb, rfl, rfl, hrow, hnd, hnm⟩ := loop_ok hv list g _ _ _ _ h (fun x hx => hl x (by simp [hx]))
    refine ⟨(s, v) :: new, c :: (bytes s ++ (0 :: (bs ++ nb))), by simp, by simp, by simp [row, hmay, hbs, hrow, hcode], fun hn => ?_, fun hli i hi => ?_⟩
    · have := hnd (by
        rw [List.map_append, List.nodup_append]
        refine ⟨hn, by simp, fun x hx y hy => ?_⟩
        simp at hy; subst hy
        rintro rfl
        exact htwice ((any_name _ _).2 hx))
      simpa using this
    · match i with
      | 0 =>
        have : s = digits acc.length := by
          by_cases hq : s = digits acc.length
          · exact hq
          · exact absurd ⟨hli, hq⟩ hlist
        simp [this]
      | i + 1 =>
        have := hnm hli i (by simpa using hi)
        simp only [List.map_cons, List.getElem?_cons_succ]
        rw [this]; congr 2; simp; omega
theorem named_of (fs : List (ByteArray × Val)) (h : ∀ i, i < fs.length → (fs.map (·.1))[i]? = some (digits i)) : named (fs.map (·.2)) = fs := by
  unfold named
  apply List.ext_getElem
  · simp
  · intro i h1 h2
    have := h i (by simpa using h2)
    rw [List.getElem?_map, List.getElem?_eq_getElem h2] at this
    simp at this
    simp [← this]
theorem shut_kind (list : Bool) (fs : List (ByteArray × Val)) : (shut list fs).kind = if list then 7 else 6 := by cases list <;> rfl
theorem wrap_length (l : List Nat) : (wrap l).length = l.length + 5 := by simp [wrap, leI_length]; omega
theorem doc_ok : ∀ (d : Nat) (list : Bool) (outer : Option Nat) (l : List Nat) (v : Val) (r : List Nat), doc d list outer l = .ok v r → (∀ c ∈ l, c < 256) →
    ∃ bs, l = bs ++ r ∧ enc d v = some bs ∧ code v.kind = (if list then 4 else 3) ∧ ∀ n, outer = some n → (bs.length : Int) = n
  | 0, _, _, _, _, _, h, _ => by cases h
  | d + 1, list, outer, l, v, r, h, hl => by
    rw [doc] at h
    obtain ⟨x, r1, hx, h'⟩ := Res.bind_ok h
    clear h; have h := h'; clear h'
    obtain ⟨rfl, hxn⟩ := take_ok hx
    split at h
    · cases h
    rename_i hn
    obtain ⟨fs, r2, hfs, h'⟩ := Res.bind_ok h
    clear h; have h := h'; clear h'
    split at h
    · cases h
    rename_i hlen
    injection h with h1 h2
    subst h1; subst h2
    have hv : ∀ c l v r, valOf (doc d false none) (doc d true none) c l = .ok v r → (∀ c ∈ l, c < 256) → ∃ bs, l = bs ++ r ∧ enc d v = some bs ∧ code v.kind = c := by
      intro c l v r h hl
      unfold valOf at h
      split at h
      · rename_i hc
        obtain ⟨bs, h1, h2, h3, _⟩ := doc_ok d _ _ _ _ _ h hl
        exact ⟨bs, h1, h2, by simpa [hc] using h3⟩
      split at h
      · rename_i hc
        obtain ⟨bs, h1, h2, h3, _⟩ := doc_ok d _ _ _ _ _ h hl
        exact ⟨bs, h1, h2, by simpa [hc] using h3⟩
      · obtain ⟨bs, h1, h2, h3, h4, h5⟩ := scalarOf_ok h hl
        refine ⟨bs, h1, ?_, h3⟩
        cases d with
        | zero => exact h2
        | succ d => rw [enc, if_neg h4, if_neg h5]; exact h2
    obtain ⟨new, nb, hnew, rfl, hrow, hnd, hnm⟩ := loop_ok hv list _ _ _ _ _ hfs (fun x hx => hl x (by simp [hx]))
    rw [List.nil_append] at hnew
    subst hnew
    have hx' : ∀ c ∈ x, c < 256 := fun c hc => hl c (by simp [hc])
    have hsg : signed x = (nb.length : Int) + 5 := by
      simp at hlen; omega
    have hwrap : wrap nb = x ++ (nb ++ [0]) := by
      unfold wrap
      rw [← hsg, show leI (signed x) 4 = x by rw [← hxn]; exact leI_signed x hx']
    refine ⟨wrap nb, by rw [hwrap]; simp, ?_, by rw [shut_kind]; cases list <;> rfl, fun n ho => ?_⟩
    · cases list with
      | false =>
        have hb : bare (shut false fs) false false false true false = true := by simp [bare, shut, Val.n, Val.s, Val.b, Val.l, none_size]
        have hf : (shut false fs).f = fs := rfl
        rw [enc, if_pos (by rfl), hb, hf, decide_eq_true (hnd (by simp)), hrow]
        rfl
      | true =>
        have hb : bare (shut true fs) false false false false true = true := by simp [bare, shut, Val.n, Val.s, Val.b, Val.f, none_size]
        have hf : (shut true fs).l = fs.map (·.2) := rfl
        rw [enc, if_neg (by rw [shut_kind]; decide), if_pos (by rfl), hb, hf, named_of fs (fun i hi => by simpa using hnm rfl i hi), hrow]
        rfl
    · rw [wrap_length]
      have : ¬ ∃ n, outer = some n ∧ signed x ≠ n := fun h => hn (.inr h)
      have : signed x = n := by
        by_cases hq : signed x = n
        · exact hq
        · exact absurd ⟨n, ho, hq⟩ this
      omega
theorem take_err {n : Nat} {l : List Nat} {e : Nat} (h : take n l = .err e) : e ≠ 0 := by
  unfold take at h
  split at h
  · injection h with h; omega
  · cases h
theorem Res.bind_err {α β : Type} {a : Res α} {f : α → List Nat → Res β} {e : Nat} (h : a.bind f = .err e) : a = .err e ∨ ∃ x r, a = .ok x r ∧ f x r = .err e := by
  cases a with
  | err e' => injection h with h; subst h; exact .inl rfl
  | ok x r => exact .inr ⟨x, r, rfl, h⟩
theorem doc_shut {d : Nat} {list : Bool} {outer : Option Nat} {l r : List Nat} {v : Val} (h : doc d list outer l = .ok v r) : ∃ list fs, v = shut list fs := by
  cases d with
  | zero => cases h
  | succ d =>
    rw [doc] at h
    obtain ⟨_, _, _, h'⟩ := Res.bind_ok h
    split at h'
    · cases h'
    obtain ⟨_, _, _, h2⟩ := Res.bind_ok h'
    split at h2
    · cases h2
    injection h2 with h2 _
    exact ⟨_, _, h2.symm⟩
theorem scalarOf_err {c : Nat} {l : List Nat} {e : Nat} (h : scalarOf c l = .err e) : e ≠ 0 := by
  have hf : ∀ n, float n l = .err e → e ≠ 0 := fun n h => by
    rcases Res.bind_err h with h | ⟨_, _, _, h⟩
    · exact take_err h
    · injection h with h; omega
  have hn : ∀ k n, number k n l = .err e → e ≠ 0 := fun k n h => by
    rcases Res.bind_err h with h | ⟨_, _, _, h⟩
    · exact take_err h
    · cases h
  have ht : text l = .err e → e ≠ 0 := fun h => by
    rcases Res.bind_err h with h | ⟨_, _, _, h⟩
    · exact take_err h
    split at h
    · injection h with h; omega
    rcases Res.bind_err h with h | ⟨_, _, _, h⟩
    · exact take_err h
    split at h
    · injection h with h; omega
    split at h
    · injection h with h; omega
    · cases h
  have hb : blob l = .err e → e ≠ 0 := fun h => by
    rcases Res.bind_err h with h | ⟨_, _, _, h⟩
    · exact take_err h
    split at h
    · injection h with h; omega
    rcases Res.bind_err h with h | ⟨_, _, _, h⟩
    · exact take_err h
    · cases h
  have hi : ident l = .err e → e ≠ 0 := fun h => by
    rcases Res.bind_err h with h | ⟨_, _, _, h⟩
    · exact take_err h
    · cases h
  have ho : bool l = .err e → e ≠ 0 := fun h => by
    rcases Res.bind_err h with h | ⟨_, _, _, h⟩
    · exact take_err h
    split at h
    · injection h with h; omega
    · cases h
  unfold scalarOf at h
  by_cases c1 : c = 0x01
  · rw [if_pos c1] at h; exact hf _ h
  rw [if_neg c1] at h
  by_cases c1 : c = 0x02
  · rw [if_pos c1] at h; exact ht h
  rw [if_neg c1] at h
  by_cases c1 : c = 0x05
  · rw [if_pos c1] at h; exact hb h
  rw [if_neg c1] at h
  by_cases c1 : c = 0x07
  · rw [if_pos c1] at h; exact hi h
  rw [if_neg c1] at h
  by_cases c1 : c = 0x08
  · rw [if_pos c1] at h; exact ho h
  rw [if_neg c1] at h
  by_cases c1 : c = 0x09
  · rw [if_pos c1] at h; exact hn _ _ h
  rw [if_neg c1] at h
  by_cases c1 : c = 0x0a
  · rw [if_pos c1] at h; cases h
  rw [if_neg c1] at h
  by_cases c1 : c = 0x10
  · rw [if_pos c1] at h; exact hn _ _ h
  rw [if_neg c1] at h
  by_cases c1 : c = 0x12
  · rw [if_pos c1] at h; exact hn _ _ h
  rw [if_neg c1] at h
  by_cases c1 : c = 0x13
  · rw [if_pos c1] at h; exact hf _ h
  rw [if_neg c1] at h
  by_cases c1 : c = 0x7f
  · rw [if_pos c1] at h; cases h
  rw [if_neg c1] at h
  by_cases c1 : c = 0xff
  · rw [if_pos c1] at h; cases h
  rw [if_neg c1] at h
  injection h with h; omega
theorem name_err {l : List Nat} {e : Nat} (h : name l = .err e) : e ≠ 0 := by
  unfold name at h
  split at h
  · injection h with h; omega
  split at h
  · injection h with h; omega
  split at h
  · injection h with h; omega
  · cases h
theorem loop_err {val : Nat → List Nat → Res Val} (hv : ∀ c l e, val c l = .err e → e ≠ 0) (list : Bool) : ∀ (g : Nat) (acc : List (ByteArray × Val)) (l : List Nat) (e : Nat), loop val list g acc l = .err e → e ≠ 0
  | 0, _, _, _, h => by injection h with h; omega
  | _ + 1, _, [], _, h => by injection h with h; omega
  | g + 1, acc, c :: l, e, h => by
    rw [loop] at h
    split at h
    · cases h
    split at h
    · injection h with h; omega
    rcases Res.bind_err h with h | ⟨_, _, _, h⟩
    · exact name_err h
    split at h
    · injection h with h; omega
    split at h
    · injection h with h; omega
    rcases Res.bind_err h with h | ⟨_, _, _, h⟩
    · exact hv _ _ _ h
    · exact loop_err hv list g _ _ _ h
theorem doc_err : ∀ (d : Nat) (list : Bool) (outer : Option Nat) (l : List Nat) (e : Nat), doc d list outer l = .err e → e ≠ 0
  | 0, _, _, _, _, h => by injection h with h; omega
  | d + 1, list, outer, l, e, h => by
    rw [doc] at h
    rcases Res.bind_err h with h | ⟨_, _, _, h⟩
    · exact take_err h
    split at h
    · injection h with h; omega
    rcases Res.bind_err h with h | ⟨_, _, _, h⟩
    · refine loop_err (fun c l e h => ?_) _ _ _ _ _ h
      unfold valOf at h
      split at h
      · exact doc_err d _ _ _ _ h
      split at h
      · exact doc_err d _ _ _ _ h
      · exact scalarOf_err h
    split at h
    · injection h with h; omega
    · cases h
/-- WHAT DECODE ANSWERS IS ENCODED TO THE SAME BYTES. -/
theorem decode_enc {b : List Nat} {v : Val} (h : decode b = (0, v)) (hb : ∀ c ∈ b, c < 256) : b.length ≤ 65536 ∧ enc 32 v = some b ∧ v.kind = 6 := by
  unfold decode at h
  split at h
  · simp at h
  rename_i hl
  refine ⟨by omega, ?_⟩
  cases hd : doc 32 false (some b.length) b with
  | err e =>
    rw [hd] at h
    simp only [Prod.mk.injEq] at h
    exact absurd h.1 (doc_err 32 false _ b e hd)
  | ok x r =>
    rw [hd] at h
    simp only [Prod.mk.injEq, true_and] at h
    subst h
    obtain ⟨bs, h1, h2, h3, h4⟩ := doc_ok _ _ _ _ _ _ hd hb
    have := h4 _ rfl
    have hr : r = [] := by
      have := congrArg List.length h1
      simp at this
      exact List.length_eq_zero_iff.1 (by omega)
    subst hr
    rw [List.append_nil] at h1
    subst h1
    refine ⟨h2, ?_⟩
    obtain ⟨list, fs, rfl⟩ : ∃ list fs, x = shut list fs := doc_shut hd
    rw [shut_kind] at h3 ⊢
    cases list with
    | false => rfl
    | true => simp [code] at h3
end Bson
end
