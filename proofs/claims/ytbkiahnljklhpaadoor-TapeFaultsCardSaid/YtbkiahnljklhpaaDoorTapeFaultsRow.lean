/- THE WALK OF aqueductlaw1.Faults. -/
import Derived.Test.YtbkiahnljklhpaaDoorTapeCommon
import Derived.Test.YtbkiahnljklhpaaDoorDiskPlan
import Derived.Deep.RegionHeld3
namespace Go.Proofs.YtbkiahnljklhpaaDoor
open Go.RowKit
open Seal
theorem infoFault : (Tryd.prog.info? 33).map (fun i => (i.zero, i.size, i.bytes)) = some (some (.agg #[.int .i64 0, .int .i64 0]), 2, 16) := by kernel_rfl
def pairVs (l : List (Int × Int)) : List Value := l.flatMap fun f => [.int .i64 f.1, .int .i64 f.2]
theorem pairVs_snoc (l : List (Int × Int)) (f : Int × Int) : pairVs (l ++ [f]) = pairVs l ++ [.int .i64 f.1, .int .i64 f.2] := by simp [pairVs]
theorem length_pairVs (l : List (Int × Int)) : (pairVs l).length = 2 * l.length := by
  induction l with
  | nil => rfl
  | cons f r ih => simp only [pairVs, List.flatMap_cons, List.length_append, List.length_cons, List.length_nil] at ih ⊢; omega
/-- append to a row of elements of any size, as one step of a region that draws. -/
theorem step_append_size {P : Program} {ops : Array Oper} {o : Oper} {a : Act} {w : World} {K : Act → World → Prop} {Q : Exit → Act → World → Prop} {E : Prop}
    (hg : o.guard = none) (s x : Operand) (t : TypeId) (ho : o.op = .call { callee := .builtin .append, args := #[s, x], argTypes := #[t, t] })
    (base : Nat) (e : TypeId) (i : TypeInfo) (z : Value) (size bytes : Nat) (ht : P.underlying t = some (.slice e)) (hi : P.info? e = some i) (hz : i.zero = some z)
    (hsize : i.size = size) (hby : i.bytes = bytes) (hzs : z.cells.size = size) (hsz : 0 < size) (v : Value) (n : Nat) (xs : List Value) (hs : a.eval s = v) (hown : w.ownsRow base e size v n xs)
    (ad : Addr) (m c : Nat) (news : List Value) (hx : a.eval x = .slice (some ad) m c) (hl : news.length = m * size) (hnews : ∀ j u, news[j]? = some u → w.cell? (ad.add j) = some u) (h1 : ∀ u ∈ news, u.oneCell' = true)
    (h63 : n + m ≤ maxLen) (hbytes : (n + m) * bytes ≤ 140737488355328) (hbase : base ≤ w.heap.size)
    (h : ∀ v' w', w'.ownsRow base e size v' (n + m) (xs ++ news) → w.grownBy w' v.ownBlock → K (a.put o.dst v') w') :
    if Region.wanted o (yielded ops a.tmps) = true then Oper.wp P o a w K Q else E := by
  have hw : Region.wanted o (yielded ops a.tmps) = true := by simp [Region.wanted, hg]
  rw [if_pos hw]
  obtain ⟨v', w', hr, h2, h3, _⟩ := run_append_own (P := P) w base t o.type e i z size bytes ht hi hz hsize hby hzs hsz v n xs hown ad m c news hl hnews h1 h63 hbytes hbase
  unfold Oper.wp execOp
  simp only [ho, resolve, invoke, builtin, Sem.run_bind, Sem.run_pure, Result.andThen_ok, List.map_toArray, List.map_cons, List.map_nil, hs, hx, hr]
  exact h v' w' h2 h3
set_option maxRecDepth 100000 in
set_option maxHeartbeats 2000000 in
theorem faults_any (a : Option Addr) (n cap : Nat) (l : List (Int × Int)) (w : World) (hl : l.length = n) (hn : n ≤ 1000) (hP : Pairs w a l) :
    Calls Tryd.prog 16 #[.slice a n cap] w fun e w' => ∃ v, e = .returned v ∧ w'.ownsRow w.heap.size 33 2 v n (pairVs l) ∧ Below w.heap.size w w' := by
  obtain ⟨i0, hJ, hJ0, hJ1, hJ2⟩ := info_parts infoFault
  have HL := Lib.hid hl
  have HP := Lib.hid hP
  clear hl hP
  go_enter Tryd.func16, Tryd.ntmps16
  go_wp2_with fail
  go_loopw [3, 4] (fun vv i wr => ∃ (k : Nat) (v : Value), k ≤ n ∧ i = .int .i64 (k : Int) ∧ v = vv ∧ Hid (wr.ownsRow w.heap.size 33 2 v k (pairVs (l.take k))) ∧ Hid (Below w.heap.size w wr)) (fun _ i _ => n - (intOf i).toNat)
  case atStart => exact ⟨0, _, Nat.zero_le _, rfl, rfl, ⟨rfl, .inl ⟨rfl, rfl⟩⟩, Below.refl _ _⟩
  case round =>
    obtain ⟨k, v, hk, rfl, rfl, hO, hB⟩ := hrel
    by_cases hlt : k < n
    · obtain ⟨b, off, e, hcell⟩ := HP.out.resolve_left (fun e => by have := HL.out; rw [e] at this; simp at this; omega)
      subst e
      obtain ⟨h1, h2⟩ := hcell k (by rw [HL.out]; exact hlt)
      obtain ⟨f1, hf1⟩ : ∃ f1, f1 = (l.getD k (0, 0)).1 := ⟨_, rfl⟩
      obtain ⟨f2, hf2⟩ : ∃ f2, f2 = (l.getD k (0, 0)).2 := ⟨_, rfl⟩
      rw [← hf1] at h1
      rw [← hf2] at h2
      have hbw := World.block_lt_of_cell? w _ h1
      have h1 := (hB.out.cell (p := ⟨b, off + k * 2, none⟩) hbw).trans h1
      have h2 := (hB.out.cell (p := ⟨b, off + k * 2 + 1, none⟩) hbw).trans h2
      have hval : l[k]? = some (f1, f2) := by
        have hk2 : k < l.length := by rw [HL.out]; exact hlt
        rw [hf1, hf2, List.getD_eq_getElem?_getD, List.getElem?_eq_getElem hk2]; rfl
      have HV := Lib.hid hval
      obtain ⟨O, hO2⟩ : ∃ O, O = Obj.cells #[.int .i64 f1, .int .i64 f2] 33 (0, 0) := ⟨_, rfl⟩
      have hown : ((wr.alloc O).drew).ownsRow w.heap.size 33 2 v k (pairVs (l.take k)) := (hO.out.alloc O).drew
      have hnw : ∀ j u, ([.int .i64 f1, .int .i64 f2] : List Value)[j]? = some u → ((wr.alloc O).drew).cell? (Addr.add ⟨wr.heap.size, 0, none⟩ j) = some u := by
        intro j u hj
        have hrow := heap_alloc_new wr O
        rw [hO2] at hrow ⊢
        match j, hj with
        | 0, hj =>
          simp at hj; subst hj
          exact cell_of_row _ _ 0 _ _ _ hrow
        | 1, hj =>
          simp at hj; subst hj
          exact cell_of_row _ _ 1 _ _ _ hrow
        | j + 2, hj => simp at hj
      have HOWN := Lib.hid hown
      have HNW := Lib.hid hnw
      have hki : (k : Int) < (n : Int) := by omega
      subst hO2
      have HB := Lib.hid hB.out
      have hbr : b < wr.heap.size := Nat.lt_of_lt_of_le hbw hB.out.size
      have HVB : Hid (v.ownBlock ≠ some b) := fun e => by have h3 := (hO.out.lt b e).1; have h4 : b < w.heap.size := hbw; omega
      have HVO : Hid (∀ y, v.ownBlock = some y → w.heap.size ≤ y) := fun y e => (hO.out.lt y e).1
      have h1a : ((wr.alloc (Obj.cells #[.int .i64 f1, .int .i64 f2] 33 (0, 0))).drew).cell? ⟨b, off + k * 2, none⟩ = some (.int .i64 f1) := ((below_alloc wr _).cell (p := ⟨b, off + k * 2, none⟩) hbr).trans h1
      have h2a : ((wr.alloc (Obj.cells #[.int .i64 f1, .int .i64 f2] 33 (0, 0))).drew).cell? ⟨b, off + k * 2 + 1, none⟩ = some (.int .i64 f2) := ((below_alloc wr _).cell (p := ⟨b, off + k * 2 + 1, none⟩) hbr).trans h2
      clear hown hnw hval hf1 hf2 hcell
      go_wp2_with fail
      go_region_held3 (fun w' => w'.cell? ⟨b, off + k * 2, none⟩ = some (.int .i64 f1) ∧ w'.cell? ⟨b, off + k * 2 + 1, none⟩ = some (.int .i64 f2))
        (first | exact ⟨h1, h2⟩ | exact ⟨h1a, h2a⟩ | exact ⟨h1b, h2b⟩ | go_keep)
        ((refine step_append_size rfl (.tmp 11) (.tmp 23) 34 rfl w.heap.size 33 i0 (.agg #[.int .i64 0, .int .i64 0]) 2 16 Tryd.underlying34 hJ hJ0 hJ1 hJ2 rfl (by decide) v k (pairVs (l.take k)) rfl HOWN.out ⟨wr.heap.size, 0, none⟩ 1 1 [.int .i64 f1, .int .i64 f2] rfl rfl HNW.out (fun u hu => by simp at hu; rcases hu with rfl | rfl <;> rfl) (by unfold maxLen; omega) (by omega) (by have := HB.out.size; simp; omega) ?_; intro v4 w4 hrow4 hg4; have h1b := (World.cell?_of_block (a := ⟨b, off + k * 2, none⟩) (hg4.block b (by simp; omega) HVB.out.symm)).trans h1a; have h2b := (World.cell?_of_block (a := ⟨b, off + k * 2 + 1, none⟩) (hg4.block b (by simp; omega) HVB.out.symm)).trans h2a; have HG4 := Lib.hid hg4; have HROW4 := Lib.hid hrow4; clear hg4 hrow4))
      all_goals
        have hl1 : pairVs (l.take k) ++ [.int .i64 f1, .int .i64 f2] = pairVs (l.take (k + 1)) := by
          have e : l.take (k + 1) = l.take k ++ [(f1, f2)] := by rw [List.take_add_one, HV.out]; rfl
          rw [e, pairVs_snoc]
        have hr5 := HROW4.out
        rw [hl1] at hr5
        have HR5 := Lib.hid hr5
        have HB5 : Hid (Below w.heap.size w w4) := ((HB.out.alloc HB.out.size _).drew).grown HG4.out (by have := HB.out.size; simp; omega) HVO.out
        clear hr5 hl1 HROW4 HG4
        go_wp2_with fail
        go_roundw
        case rel => exact ⟨k + 1, _, by omega, by go_num, rfl, HR5, HB5⟩
        case measure => simp [intOf]; omega
    · have hk' : k = n := by omega
      subst hk'
      have hO' := hO.out
      rw [List.take_of_length_le (by rw [HL.out]; exact Nat.le_refl _)] at hO'
      have HO := Lib.hid hO'
      clear hO' hO
      go_wp2_with fail
      go_ret
      exact ⟨_, rfl, HO.out, hB.out⟩
/-- The row that Faults gives, as Plan reads it. -/
theorem pairs_of_row {w : World} {X : Nat} {v : Value} {n : Nat} {l : List (Int × Int)} (h : w.ownsRow X 33 2 v n (pairVs l)) (hl : l.length = n) :
    ∃ a cap, v = .slice a n cap ∧ Pairs w a l ∧ (∀ p, a = some p → X ≤ p.block) := by
  obtain ⟨_, ⟨rfl, rfl⟩ | ⟨b, cap, cur, rfl, hb, hg, hnc, hcm, hcs, htake⟩⟩ := h
  · exact ⟨none, 0, rfl, .inl (List.eq_nil_of_length_eq_zero hl), fun p hp => by simp at hp⟩
  · refine ⟨_, cap, rfl, .inr ⟨b, 0, rfl, fun j hj => ?_⟩, fun p hp => by obtain rfl := Option.some.inj hp; exact hb⟩
    have hcell : ∀ c, c < n * 2 → w.cell? ⟨b, 0 + c, none⟩ = (pairVs l)[c]? := fun c hc => by
      rw [Nat.zero_add, cell_of_row w b c _ _ _ hg, ← htake, List.getElem?_take_of_lt hc, Array.getElem?_toList]
    have hp : ∀ (l : List (Int × Int)) (j : Nat), j < l.length → (pairVs l)[j * 2]? = some (.int .i64 (l.getD j (0, 0)).1) ∧ (pairVs l)[j * 2 + 1]? = some (.int .i64 (l.getD j (0, 0)).2) := by
      intro l
      induction l with
      | nil => intro j hj; simp at hj
      | cons f r ih =>
        intro j hj
        cases j with
        | zero => exact ⟨rfl, rfl⟩
        | succ j =>
          have := ih j (by simpa using hj)
          rw [show (j + 1) * 2 = j * 2 + 2 by omega]
          exact this
    obtain ⟨e1, e2⟩ := hp l j hj
    exact ⟨(hcell (j * 2) (by omega)).trans e1, (hcell (j * 2 + 1) (by omega)).trans e2⟩
/-- Plan, of a system. -/
theorem plan_sys (B g gl : Nat) (s : Disk.St) (own : Nat → Nat) (L : Int × Int × Int) (a : Option Addr) (len cap : Nat) (l : List (Int × Int)) (w : World) (hS : Sys B w g gl s own L) (ho : s.ops < 4611686018427387904) (hl : l.length = len) (hlen : len ≤ 1099511627776) (hP : Pairs w a l) (ha : ∀ p, a = some p → own p.block = 0) (hbd : ∀ j, (l.getD j (0, 0)).1 ≤ 9223372036854775807) :
    Calls Tryd.prog 9 #[.pointer (some ⟨g, 0, none⟩), .slice a len cap] w fun e w' => e = .returned (.tuple #[]) ∧ ∃ own', Sys B w' g gl { s with begun := s.ops, plan := planOf l } own' L ∧ ∀ F : Nat → Prop, Free B gl w own F → Move B gl w w' own own' F F := by
  refine (plan_any g s own a len cap l w hS.disk ho hl hlen hP ha hbd).mono ?_
  rintro e w' ⟨rfl, own', hD, hO, hm⟩
  exact ⟨rfl, own', hS.only hD hO hm, fun F hF => Move.of_only hF hO hm⟩
/-- Nothing is planned behind Plan(nil). -/
theorem calm_nil (s : Disk.St) : Disk.Calm { s with begun := s.ops, plan := planOf [] } := fun _ _ => rfl
end Go.Proofs.YtbkiahnljklhpaaDoor
