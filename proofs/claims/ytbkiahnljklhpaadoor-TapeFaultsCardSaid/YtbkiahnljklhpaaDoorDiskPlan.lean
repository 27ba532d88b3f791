/- THE WALKS OF happening AND Plan. -/
import Derived.Test.YtbkiahnljklhpaaDoorDiskNew
import Derived.Test.YtbkiahnljklhpaaDoorAppend
import Derived.Deep.RegionHeld3
namespace Go.Proofs.YtbkiahnljklhpaaDoor
open Go.RowKit Go.Maps
open Seal
def hapV (k : Int) : Value := if k = 1 then fnOf 1 else if k = 2 then fnOf 2 else if k = 3 then fnOf 3 else if k = 4 then fnOf 4 else .nilFunc
theorem hapV_ok {k : Int} (h1 : 1 ≤ k) (h2 : k ≤ 4) : hapV k = fnOf k.toNat := by
  have : k = 1 ∨ k = 2 ∨ k = 3 ∨ k = 4 := by omega
  rcases this with rfl | rfl | rfl | rfl <;> rfl
theorem hapV_no {k : Int} (h : ¬ (1 ≤ k ∧ k ≤ 4)) : hapV k = .nilFunc := by
  unfold hapV
  rw [if_neg (by omega), if_neg (by omega), if_neg (by omega), if_neg (by omega)]
set_option maxRecDepth 100000 in
set_option maxHeartbeats 1000000 in
theorem hap_any (k : Int) (w : World) : Calls Tryd.prog 26 #[.int .i64 k] w fun e w' => e = .returned (hapV k) ∧ w = w' := by
  have hmf : ∀ (fn : Fn) (first cap : Array Value) (w : World), (Instr.makeFunc fn first cap).run Tryd.prog w = .ok (.func fn first cap) w := fun _ _ _ _ => rfl
  by_cases h : 1 ≤ k ∧ k ≤ 4
  · have h4 : k = 1 ∨ k = 2 ∨ k = 3 ∨ k = 4 := by omega
    rcases h4 with rfl | rfl | rfl | rfl
    all_goals
      go_enter Tryd.func26, Tryd.ntmps26
      go_wp2_with fail
      go_ret
      exact ⟨rfl, rfl⟩
  · rw [hapV_no h]
    have d1 : (k == 1) = false := by rw [beq_eq_false_iff_ne]; omega
    have d2 : (k == 2) = false := by rw [beq_eq_false_iff_ne]; omega
    have d3 : (k == 3) = false := by rw [beq_eq_false_iff_ne]; omega
    have d4 : (k == 4) = false := by rw [beq_eq_false_iff_ne]; omega
    clear h
    go_enter Tryd.func26, Tryd.ntmps26
    go_wp2_with fail
    go_ret
    exact ⟨rfl, rfl⟩
/-- The faults of a list that strike operation k, in their order. -/
def strikes (f : Int × Int) (k : Nat) : Bool := decide (f.1 = (k : Int)) && decide (1 ≤ f.2) && decide (f.2 ≤ 4)
def planOf (l : List (Int × Int)) (k : Nat) : List Nat := (l.filter fun f => strikes f k).map fun f => f.2.toNat
theorem planOf_snoc (l : List (Int × Int)) (f : Int × Int) (k : Nat) : planOf (l ++ [f]) k = planOf l k ++ if strikes f k then [f.2.toNat] else [] := by
  unfold planOf
  rw [List.filter_append, List.map_append]
  congr 1
  by_cases h : strikes f k <;> simp [h]
/-- A slice of faults: numbers by twos. -/
def Pairs (w : World) (a : Option Addr) (l : List (Int × Int)) : Prop := l = [] ∨ ∃ b off, a = some ⟨b, off, none⟩ ∧ ∀ j, j < l.length → w.cell? ⟨b, off + j * 2, none⟩ = some (.int .i64 (l.getD j (0, 0)).1) ∧ w.cell? ⟨b, off + j * 2 + 1, none⟩ = some (.int .i64 (l.getD j (0, 0)).2)
/-- The plan's map while it is filled. -/
structure PlanMap (w : World) (own : Nat → Nat) (b n : Nat) (plan : Nat → List Nat) : Prop where
  mark : own b = 4
  ex : ∃ D, w.ownsMap Tryd.prog 3 asIs b n D ∧ ∀ k : Nat, 0 < k → ∃ v, D.atKey (.int .i64 (k : Int)) (.held nilFns) = .held v ∧ FnsAt w own k v (plan k)
theorem PlanMap.keep {w w' : World} {own own' : Nat → Nat} {b n : Nat} {plan : Nat → List Nat} (h : PlanMap w own b n plan) (k : Keeps isPlan w w' own own') : PlanMap w' own' b n plan := by
  obtain ⟨D, hmap, hall⟩ := h.ex
  obtain ⟨k1, k2⟩ := k b hmap.lt (.inl h.mark)
  refine ⟨k2.trans h.mark, D, ownsMap_keep hmap k1, fun j hj => ?_⟩
  obtain ⟨v, hv, hf⟩ := hall j hj
  exact ⟨v, hv, hf.keep fun x hx hr => k x hx (.inr (by omega))⟩
theorem PlanMap.at0 {w : World} {own : Nat → Nat} {b n : Nat} {plan : Nat → List Nat} (h : PlanMap w own b n plan) : PlanAt w own (.map (some b)) 0 plan := by
  obtain ⟨D, hmap, hall⟩ := h.ex
  exact .inr ⟨b, n, D, rfl, h.mark, hmap, hall⟩
structure PlanRep (w : World) (g : Nat) (s : Disk.St) (own : Nat → Nat) (pv : Value) (gu b n : Nat) (plan : Nat → List Nat) (xs : List Value) (ws : List Nat) : Prop where
  blk : DBlk w g s.page s.most pv (.slice (some ⟨gu, 0, none⟩) ((s.most + 63) / 64) ((s.most + 63) / 64)) (Disk.live s.pages) s.ops s.writes s.ops (.map (some b))
  mark : own g = 1
  pages : PagesAt w own s.page pv s.pages xs
  used : UsedAt w own gu ((s.most + 63) / 64) s.pages ws
  map : PlanMap w own b n plan
  fresh : ∀ x, w.heap.size ≤ x → own x = 0
theorem PlanRep.keep {w w' : World} {g : Nat} {s : Disk.St} {own own' : Nat → Nat} {pv : Value} {gu b n : Nat} {plan : Nat → List Nat} {xs : List Value} {ws : List Nat} (h : PlanRep w g s own pv gu b n plan xs ws) (k : Keeps (fun r => r ≠ 0) w w' own own') (hf : ∀ x, w'.heap.size ≤ x → own' x = 0) : PlanRep w' g s own' pv gu b n plan xs ws := by
  obtain ⟨k1, k2⟩ := k g (heap_lt h.blk) (by rw [h.mark]; decide)
  refine ⟨h.blk.same k1, k2.trans h.mark, h.pages.keep fun b hb hr => k b hb ?_, h.used.keep fun b hb hr => k b hb ?_, h.map.keep fun b hb hr => k b hb ?_, hf⟩
  · unfold isPage at hr; omega
  · omega
  · unfold isPlan at hr; omega
def upd' (own : Nat → Nat) (b r : Nat) : Nat → Nat := fun x => if x = b then r else own x
/-- One more is to happen. -/
theorem PlanRep.add {w w1 w2 : World} {g : Nat} {s : Disk.St} {own : Nat → Nat} {pv : Value} {gu b n : Nat} {plan : Nat → List Nat} {xs : List Value} {ws : List Nat} {o : Obj} {v v' : Value} {D : DataW Value} {at_ x : Nat} (R : PlanRep w g s own pv gu b n plan xs ws)
    (hmap : w.ownsMap Tryd.prog 3 asIs b n D) (hall : ∀ k : Nat, 0 < k → ∃ v, D.atKey (.int .i64 (k : Int)) (.held nilFns) = .held v ∧ FnsAt w own k v (plan k)) (hat : 0 < at_) (hk63 : at_ ≤ 9223372036854775807) (hF : FnsAt w own at_ v (plan at_)) (hx : 1 ≤ x ∧ x ≤ 4)
    (hrow : w1.ownsRow 0 64 1 v' ((plan at_).length + 1) ((plan at_).map fnOf ++ [fnOf x])) (hl : Lies (w.alloc o) w1 v v')
    (hmap2 : w2.ownsMap Tryd.prog 3 asIs b (n + 1) (D.put (.int .i64 (at_ : Int)) (.held v'))) (ht : w1.mapTurned w2 b) :
    ∃ own2, PlanRep w2 g s own2 pv gu b (n + 1) (fun k => if k = at_ then plan at_ ++ [x] else plan k) xs ws ∧ Only own w w2 ∧ ∀ i, i < w.heap.size → own2 i = own i := by
  have hb4 := R.map.mark
  have hw1 : ∀ i, i < w.heap.size → own i ≠ 10 + 2 * at_ → w1.heap[i]? = w.heap[i]? := by
    intro i hi hne
    rw [hl.block (by simp; omega) (fun e => hne (hF.mark i e))]
    exact Below.heap_alloc w o i hi
  have hG2 := ht.grown
  have hsz : w.heap.size + 1 ≤ w1.heap.size := by
    rcases hl with ⟨_, hgr⟩ | ⟨_, hgr⟩ <;> (have := hgr.size; simpa using this)
  have hk : ∀ i, i < w.heap.size → own i ≠ 10 + 2 * at_ → own i ≠ 4 → w2.heap[i]? = w.heap[i]? := fun i hi h1 h4 => by
    rw [hG2.block i (by omega) (fun e => by simp only [Option.some.injEq] at e; subst e; exact h4 hb4)]
    exact hw1 i hi h1
  obtain ⟨own2, ho1, ho2, ho3⟩ : ∃ own2 : Nat → Nat, (∀ i, i < w.heap.size → own2 i = own i) ∧ (∀ i, v'.ownBlock = some i → own2 i = 10 + 2 * at_) ∧ ∀ i, w2.heap.size ≤ i → own2 i = 0 := by
    have hs2 := hG2.size
    rcases hl with ⟨he, hgr⟩ | ⟨he, hgr⟩
    · exact ⟨own, fun _ _ => rfl, fun i hi => hF.mark i (by rw [← he]; exact hi), fun i hi => R.fresh i (by omega)⟩
    · have hlt := (hrow.lt _ he).2
      refine ⟨upd' own (w.alloc o).heap.size (10 + 2 * at_), fun i hi => ?_, fun i hi => ?_, fun i hi => ?_⟩
      · unfold upd'; rw [if_neg (by simp; omega)]
      · rw [he] at hi
        simp only [Option.some.injEq] at hi
        unfold upd'; rw [if_pos hi.symm]
      · unfold upd'; rw [if_neg (by omega)]
        exact R.fresh i (by omega)
  have hvb : ∀ i, v'.ownBlock = some i → i ≠ b := fun i hi e => by
    have h2 := ho2 i hi
    rw [e, ho1 b hmap.lt, hb4] at h2
    omega
  refine ⟨own2, ⟨R.blk.same (hk g (heap_lt R.blk) (by rw [R.mark]; omega) (by rw [R.mark]; omega)), (ho1 g (heap_lt R.blk)).trans R.mark, R.pages.keep fun i hi hr => ⟨hk i hi (by unfold isPage at hr; omega) (by unfold isPage at hr; omega), ho1 i hi⟩, R.used.keep fun i hi hr => ⟨hk i hi (by omega) (by omega), ho1 i hi⟩, ⟨(ho1 b hmap.lt).trans hb4, _, hmap2, fun k hkp => ?_⟩, ho3⟩, ?_, ho1⟩
  · by_cases hke : k = at_
    · subst hke
      refine ⟨v', atKey_put_same hmap.isMap (keyInt.key (key_mk hk63)) _ _, ?_⟩
      rw [if_pos rfl]
      refine ⟨?_, ho2, fun y hy => ?_⟩
      · rw [List.length_append, List.length_singleton, List.map_append]
        exact ownsRow_keep hrow fun i hi => hG2.block i (hrow.lt i hi).2 (by simp [hvb i hi])
      · rcases List.mem_append.1 hy with h | h
        · exact hF.kind y h
        · rw [List.mem_singleton.1 h]; exact hx
    · obtain ⟨u, hu, hfu⟩ := hall k hkp
      rw [if_neg hke]
      exact ⟨u, by rw [atKey_put_other (by simp; omega)]; exact hu, hfu.keep fun i hi hr => ⟨hk i hi (by omega) (by omega), ho1 i hi⟩⟩
  · refine ⟨?_, ?_, ?_, by have := hG2.size; omega, fun i hi h0 => hk i hi (by omega) (by omega)⟩
    · rw [hG2.os]; rcases hl with ⟨_, hgr⟩ | ⟨_, hgr⟩ <;> exact hgr.os
    · rw [hG2.tape]; rcases hl with ⟨_, hgr⟩ | ⟨_, hgr⟩ <;> exact hgr.tape
    · rw [hG2.output]; rcases hl with ⟨_, hgr⟩ | ⟨_, hgr⟩ <;> exact hgr.output
/-- The plan is thrown away: an empty map stands in its place. -/
theorem DiskRep.planned {w : World} {g : Nat} {s : Disk.St} {own : Nat → Nat} {pv : Value} {gu : Nat} {mv : Value} {xs : List Value} {ws : List Nat} (R : DiskRep w g s own pv gu mv xs ws) (w' : World)
    (hw : w' = ((w.setCell ⟨g, 7, none⟩ (.int .i64 (s.ops : Int))).setCell ⟨g, 8, none⟩ (.map (some w.heap.size))).alloc (.map #[] 0)) :
    PlanRep w' g s (upd' own w.heap.size 4) pv gu w.heap.size 0 (fun _ => []) xs ws ∧ Only own w w' ∧ ∀ i, i < w.heap.size → upd' own w.heap.size 4 i = own i := by
  have hgl := heap_lt R.blk
  have hz : ((w.setCell ⟨g, 7, none⟩ (.int .i64 (s.ops : Int))).setCell ⟨g, 8, none⟩ (.map (some w.heap.size))).heap.size = w.heap.size := by simp [World.setCell]
  have hz' : w'.heap.size = w.heap.size + 1 := by rw [hw]; simp [World.setCell]
  have ho : ∀ i, i < w.heap.size → upd' own w.heap.size 4 i = own i := fun i hi => by unfold upd'; rw [if_neg (by omega)]
  have hk : ∀ i, i < w.heap.size → own i ≠ 1 → w'.heap[i]? = w.heap[i]? := fun i hi h1 => by
    rw [hw, Below.heap_alloc _ _ _ (by rw [hz]; exact hi), Below.heap_setCell _ _ _ _ (fun e => h1 (by rw [e]; exact R.mark)), Below.heap_setCell _ _ _ _ (fun e => h1 (by rw [e]; exact R.mark))]
  refine ⟨⟨?_, (ho g hgl).trans R.mark, R.pages.keep fun i hi hr => ⟨hk i hi (by unfold isPage at hr; omega), ho i hi⟩, R.used.keep fun i hi hr => ⟨hk i hi (by omega), ho i hi⟩, ⟨by unfold upd'; rw [if_pos rfl], .map [], ?_, fun k _ => ⟨nilFns, rfl, fns_nil _ _ _⟩⟩, fun i hi => ?_⟩, ⟨?_, ?_, ?_, by omega, fun i hi h0 => hk i hi (by omega)⟩, ho⟩
  · have hb := (R.blk.s7 s.ops).s8 (.map (some w.heap.size))
    exact hb.same (by rw [hw]; exact Below.heap_alloc _ _ _ (by rw [hz]; exact hgl))
  · have := World.ownsMap_made ((w.setCell ⟨g, 7, none⟩ (.int .i64 (s.ops : Int))).setCell ⟨g, 8, none⟩ (.map (some w.heap.size))) Tryd.prog 3 asIs
    rw [hz, ← hw] at this
    exact this
  · unfold upd'; rw [if_neg (by omega)]; exact R.fresh i (by omega)
  · rw [hw]; rfl
  · rw [hw]; rfl
  · rw [hw]; rfl
theorem run_neq_func_nil {P : Program} (w : World) {t : TypeId} {p1 p2 : Array TypeId} {v : Bool} (h : P.underlying t = some (.func p1 p2 v)) (F : Fn) (r c : Array Value) : (binOp .neq t (.func F r c) .nilFunc).run P w = .ok (.bool true) w := by
  have e : ∀ d : Nat, (Op.equalIn (d + 1) t (.func F r c) .nilFunc).run P w = .ok false w := fun d => by
    simp [Op.equalIn, run_underlying h]
  simp only [binOp]
  simp [Op.equal, Op.maxDepth, e 9999]
theorem run_neq_nil_nil {P : Program} (w : World) {t : TypeId} {p1 p2 : Array TypeId} {v : Bool} (h : P.underlying t = some (.func p1 p2 v)) : (binOp .neq t .nilFunc .nilFunc).run P w = .ok (.bool false) w := by
  have e : ∀ d : Nat, (Op.equalIn (d + 1) t .nilFunc .nilFunc).run P w = .ok true w := fun d => by
    simp [Op.equalIn, run_underlying h]
  simp only [binOp]
  simp [Op.equal, Op.maxDepth, e 9999]
theorem planrep_mono {w : World} {g : Nat} {s : Disk.St} {own : Nat → Nat} {pv : Value} {gu b n : Nat} {plan : Nat → List Nat} {xs : List Value} {ws : List Nat} (h : PlanRep w g s own pv gu b n plan xs ws) : PlanRep w g s own pv gu b (n + 1) plan xs ws := by
  obtain ⟨D, hmap, hall⟩ := h.map.ex
  exact ⟨h.blk, h.mark, h.pages, h.used, ⟨h.map.mark, D, hmap.mono (Nat.le_succ _), hall⟩, h.fresh⟩
theorem look_run {W : World} {b n : Nat} {D : DataW Value} {k : Nat} {v : Value} (hm : W.ownsMap Tryd.prog 3 asIs b n D) (hk : k ≤ 9223372036854775807) (hv : D.atKey (.int .i64 (k : Int)) (.held nilFns) = .held v) :
    (Instr.lookup 56 (.map (some b)) (.int .i64 (k : Int)) false).run Tryd.prog W = .ok v W := by
  obtain ⟨v', ps, hrun, hr⟩ := hm.lookup keyInt Tryd.underlying56 (zeroFns W) (zd := .held nilFns) (zp := []) rfl (key_mk hk)
  rw [hv] at hr
  simp only [asIs, Option.some.injEq, Prod.mk.injEq, DataW.held.injEq] at hr
  obtain ⟨rfl, _⟩ := hr
  exact hrun
theorem fn_news {w : World} {b : Nat} {u : Value} (h : w.cell? ⟨b, 0, none⟩ = some u) : ∀ j x, ([u] : List Value)[j]? = some x → w.cell? (Addr.add ⟨b, 0, none⟩ j) = some x := by
  intro j x hj
  cases j with
  | zero => simp at hj; subst hj; exact h
  | succ j => simp at hj
theorem fn_one (F : Fn) (r : Array Value) : ∀ u ∈ ([Value.func F r #[]] : List Value), u.oneCell' = true := by
  intro u hu; simp at hu; subst hu; rfl
theorem infoFn : (Tryd.prog.info? 64).map (fun i => (i.zero, i.size, i.bytes)) = some (some .nilFunc, 1, 8) := by kernel_rfl
/-- append, as one step of a region that draws, with a word on where the result lies. -/
theorem step_append_or {P : Program} {ops : Array Oper} {o : Oper} {a : Act} {w : World} {K : Act → World → Prop} {Q : Exit → Act → World → Prop} {E : Prop}
    (hg : o.guard = none) (s x : Operand) (t : TypeId) (ho : o.op = .call { callee := .builtin .append, args := #[s, x], argTypes := #[t, t] })
    (e : TypeId) (i : TypeInfo) (z : Value) (bytes : Nat) (ht : P.underlying t = some (.slice e)) (hi : P.info? e = some i) (hz : i.zero = some z)
    (hsize : i.size = 1) (hby : i.bytes = bytes) (hzs : z.cells.size = 1) (v : Value) (n : Nat) (xs : List Value) (hs : a.eval s = v) (hown : w.ownsRow 0 e 1 v n xs)
    (ad : Addr) (m c : Nat) (news : List Value) (hx : a.eval x = .slice (some ad) m c) (hl : news.length = m) (hm : 0 < m) (hnews : ∀ j u, news[j]? = some u → w.cell? (ad.add j) = some u) (h1 : ∀ u ∈ news, u.oneCell' = true)
    (h63 : n + m ≤ maxLen) (hbytes : (n + m) * bytes ≤ 140737488355328)
    (h : ∀ v' w', w'.ownsRow 0 e 1 v' (n + m) (xs ++ news) → Lies w w' v v' → K (a.put o.dst v') w') :
    if Region.wanted o (yielded ops a.tmps) = true then Oper.wp P o a w K Q else E := by
  have hw : Region.wanted o (yielded ops a.tmps) = true := by simp [Region.wanted, hg]
  rw [if_pos hw]
  obtain ⟨v', w', hr, h2, h3⟩ := run_append_or (P := P) w t o.type e i z bytes ht hi hz hsize hby hzs v n xs hown ad m c news hl hm hnews h1 h63 hbytes
  unfold Oper.wp execOp
  simp only [ho, resolve, invoke, builtin, Sem.run_bind, Sem.run_pure, Result.andThen_ok, List.map_toArray, List.map_cons, List.map_nil, hs, hx, hr]
  exact h v' w' h2 h3
theorem lies_undrew {w w' : World} {v v' : Value} (h : Lies w.drew w' v v') : Lies w w' v v' := by
  rcases h with ⟨e, h⟩ | ⟨e, h⟩
  · exact .inl ⟨e, h.os, h.tape, h.output, h.size, h.block⟩
  · exact .inr ⟨e, h.os, h.tape, h.output, h.size, h.block⟩
theorem lies_size {w w' : World} {v v' : Value} (h : Lies w w' v v') : w.heap.size ≤ w'.heap.size := by
  rcases h with ⟨_, h⟩ | ⟨_, h⟩ <;> exact h.size
set_option maxRecDepth 100000 in
set_option maxHeartbeats 2000000 in
theorem plan_any (g : Nat) (s : Disk.St) (own : Nat → Nat) (a : Option Addr) (len cap : Nat) (l : List (Int × Int)) (w : World) (h : DiskAt w g s own) (_hops : s.ops < 4611686018427387904) (hl : l.length = len) (hlen : len ≤ 1099511627776) (hP : Pairs w a l) (ha : ∀ p, a = some p → own p.block = 0) (hbd : ∀ j, (l.getD j (0, 0)).1 ≤ 9223372036854775807) :
    Calls Tryd.prog 9 #[.pointer (some ⟨g, 0, none⟩), .slice a len cap] w fun e w' => e = .returned (.tuple #[]) ∧ ∃ own', DiskAt w' g { s with begun := s.ops, plan := planOf l } own' ∧ Only own w w' ∧ ∀ i, i < w.heap.size → own' i = own i := by
  have hmm := @run_makeMap Tryd.prog
  obtain ⟨pv, gu, mv, xs, ws, R⟩ := h
  have c5 := R.blk.c5
  have f7 := R.blk.fr 7
  have c7 := R.blk.c7
  have f8 := R.blk.fr 8
  have c8 := R.blk.c8
  have hgl := heap_lt R.blk
  have HR := Lib.hid R
  have HP := Lib.hid hP
  have HL := Lib.hid hl
  have HA := Lib.hid ha
  have HBD := Lib.hid hbd
  clear R hP hl ha hbd
  go_enter Tryd.func9, Tryd.ntmps9
  go_wp2_with fail
  obtain ⟨w1, hw1⟩ : ∃ w1, w1 = ((w.setCell ⟨g, 7, none⟩ (.int .i64 (s.ops : Int))).setCell ⟨g, 8, none⟩ (.map (some w.heap.size))).alloc (.map #[] 0) := ⟨_, rfl⟩
  obtain ⟨R1, hO1, hs1⟩ := HR.out.planned w1 hw1
  rw [← hw1]
  obtain ⟨own1, how1⟩ : ∃ own1, own1 = upd' own w.heap.size 4 := ⟨_, rfl⟩
  rw [← how1] at R1 hs1
  obtain ⟨bm, hbm⟩ : ∃ bm, bm = w.heap.size := ⟨_, rfl⟩
  rw [← hbm] at R1 ⊢
  have HR1 := Lib.hid R1
  have HO1 := Lib.hid hO1
  have HS1 := Lib.hid hs1
  clear R1 hO1 hs1 hw1 hbm how1 c5 f7 c7 f8 c8 hmm
  go_loopw [22] (fun i wr => ∃ (k : Nat) (own2 : Nat → Nat) (plan : Nat → List Nat), k ≤ len ∧ i = .int .i64 (k : Int) ∧ Hid (PlanRep wr g s own2 pv gu bm k plan xs ws ∧ (∀ j, 0 < j → plan j = planOf (l.take k) j) ∧ Only own w wr ∧ ∀ i, i < w.heap.size → own2 i = own i)) (fun i _ => len - (intOf i).toNat)
  case atStart => exact ⟨0, own1, fun _ => [], Nat.zero_le _, rfl, HR1.out, fun j _ => by simp [planOf], HO1.out, HS1.out⟩
  case round =>
    obtain ⟨k, own2, plan, hk, rfl, hI⟩ := hrel
    by_cases hlt : k < len
    · obtain ⟨b, off, rfl, hcl⟩ := HP.out.resolve_left (fun e => by have := HL.out; rw [e] at this; simp at this; omega)
      obtain ⟨hc0, hc1⟩ := hcl k (by rw [HL.out]; exact hlt)
      have hb0 : own b = 0 := HA.out _ rfl
      have hc0' : wr.cell? ⟨b, off + k * 2, none⟩ = some (.int .i64 (l.getD k (0, 0)).1) := (World.cell?_of_block (hI.out.2.2.1.block b (World.block_lt_of_cell? w _ hc0) hb0)).trans hc0
      have hc1' : wr.cell? ⟨b, off + k * 2 + 1, none⟩ = some (.int .i64 (l.getD k (0, 0)).2) := (World.cell?_of_block (hI.out.2.2.1.block b (World.block_lt_of_cell? w _ hc1) hb0)).trans hc1
      have hbk := HBD.out k
      have hsn : Hid (∀ j, planOf (l.take (k + 1)) j = planOf (l.take k) j ++ if strikes (l.getD k (0, 0)) j then [(l.getD k (0, 0)).2.toNat] else []) := fun j => by
        rw [List.take_succ_eq_append_getElem (by rw [HL.out]; exact hlt), planOf_snoc, List.getD_eq_getElem?_getD, List.getElem?_eq_getElem (by rw [HL.out]; exact hlt)]
        rfl
      clear hcl hc0 hc1
      generalize l.getD k (0, 0) = f at *
      obtain ⟨at_, kd⟩ := f
      have hc0 : wr.cell? ⟨b, off + k * 2, none⟩ = some (.int .i64 at_) := hc0'
      have hc1 : wr.cell? ⟨b, off + k * 2 + 1, none⟩ = some (.int .i64 kd) := hc1'
      have hbk' : at_ ≤ 9223372036854775807 := hbk
      clear hc0' hc1' hbk
      go_wp2_with fail
      refine (hap_any kd _).mono ?_
      rintro e w' ⟨rfl, rfl⟩
      obtain ⟨wf, hwf⟩ : ∃ wf, wf = wr.alloc (.cells #[.int .i64 at_, .int .i64 kd] 33) := ⟨_, rfl⟩
      have hbaF := below_alloc wr (.cells #[.int .i64 at_, .int .i64 kd] 33)
      have hf0 : wf.cell? ⟨wr.heap.size, 0, none⟩ = some (.int .i64 at_) := by rw [hwf, cell_of_row _ _ 0 _ _ _ (heap_alloc_new wr _)]; rfl
      rw [← hwf] at hbaF ⊢
      have hPRf : PlanRep wf g s own2 pv gu bm k plan xs ws := hI.out.1.keep (fun x hx _ => ⟨hbaF.block x hx, rfl⟩) (fun x hx => hI.out.1.fresh x (Nat.le_trans hbaF.size hx))
      have hOf : Only own w wf := hI.out.2.2.1.trans (Only.of_below (hbaF.mono (Nat.le_refl _)))
      obtain ⟨F, hFe⟩ : ∃ F, F = wr.heap.size := ⟨_, rfl⟩
      rw [← hFe] at hf0 ⊢
      have HPRf := Lib.hid hPRf
      have HOf := Lib.hid hOf
      have HBAF := Lib.hid hbaF
      have HFE := Lib.hid hFe
      clear hPRf hOf hbaF hwf hc0 hc1 hFe
      by_cases hkd : 1 ≤ kd ∧ kd ≤ 4
      · obtain ⟨x, hx⟩ : ∃ x : Nat, x = kd.toNat := ⟨_, rfl⟩
        have hx14 : 1 ≤ x ∧ x ≤ 4 := by omega
        rw [hapV_ok hkd.1 hkd.2, ← hx]
        obtain ⟨Fn1, rec1, hfn⟩ : ∃ Fn1 rec1, fnOf x = .func Fn1 rec1 #[] := by
          have : x = 1 ∨ x = 2 ∨ x = 3 ∨ x = 4 := by omega
          rcases this with rfl | rfl | rfl | rfl <;> exact ⟨_, _, rfl⟩
        have HFN := Lib.hid hfn
        rw [hfn]
        clear hfn
        have hneq := fun W : World => run_neq_func_nil (P := Tryd.prog) W Tryd.underlying64 Fn1 rec1 #[]
        by_cases hat : 0 < at_
        · have d1 : decide (0 < at_) = true := by simpa using hat
          obtain ⟨D, hmap, hall⟩ := HPRf.out.map.ex
          obtain ⟨p, rfl⟩ := Int.eq_ofNat_of_zero_le (Int.le_of_lt hat)
          have hp0 : 0 < p := by omega
          have hp63 : p ≤ 9223372036854775807 := by omega
          obtain ⟨v, hv, hF⟩ := hall p hp0
          have hcnt : (plan p).length ≤ k := by
            rw [hI.out.2.1 p hp0]
            unfold planOf
            rw [List.length_map]
            exact Nat.le_trans (List.length_filter_le _ _) (by rw [List.length_take]; omega)
          have hgl2 : g < wf.heap.size := heap_lt HPRf.out.blk
          have hFl : F < wf.heap.size := World.block_lt_of_cell? wf _ hf0
          have hg1 := HPRf.out.mark
          have hb4 := HPRf.out.map.mark
          have e8 := HPRf.out.blk.c8
          have lk0 := look_run hmap hp63 hv
          have lk1 : (Instr.lookup 56 (.map (some bm)) (.int .i64 (p : Int)) false).run Tryd.prog wf.drew = .ok v wf.drew := look_run (W := wf.drew) hmap hp63 hv
          have hmH : (wf.alloc (.cells #[.func Fn1 rec1 #[]] 64)).ownsMap Tryd.prog 3 asIs bm k D := hmap.alloc _
          have lk2 := look_run hmH hp63 hv
          have lk3 : (Instr.lookup 56 (.map (some bm)) (.int .i64 (p : Int)) false).run Tryd.prog (wf.alloc (.cells #[.func Fn1 rec1 #[]] 64)).drew = .ok v (wf.alloc (.cells #[.func Fn1 rec1 #[]] 64)).drew := look_run (W := (wf.alloc (.cells #[.func Fn1 rec1 #[]] 64)).drew) hmH hp63 hv
          have e8a : (wf.alloc (.cells #[.func Fn1 rec1 #[]] 64)).cell? ⟨g, 8, none⟩ = some (.map (some bm)) := by rw [World.cell?_of_block (Below.heap_alloc wf _ _ hgl2)]; exact e8
          have f0a : (wf.alloc (.cells #[.func Fn1 rec1 #[]] 64)).cell? ⟨F, 0, none⟩ = some (.int .i64 (p : Int)) := by rw [World.cell?_of_block (Below.heap_alloc wf _ _ hFl)]; exact hf0
          have hnew : (wf.alloc (.cells #[.func Fn1 rec1 #[]] 64)).cell? ⟨wf.heap.size, 0, none⟩ = some (.func Fn1 rec1 #[]) := by
            rw [cell_of_row _ _ 0 _ _ _ (heap_alloc_new wf _)]; rfl
          have hownH := hF.row.alloc (.cells #[.func Fn1 rec1 #[]] 64)
          have hFn0 : own2 F = 0 := by rw [HFE.out]; exact hI.out.1.fresh _ (Nat.le_refl _)
          have hvg : v.ownBlock ≠ some g := fun e => by have := hF.mark g e; rw [hg1] at this; omega
          have hvF : v.ownBlock ≠ some F := fun e => by have := hF.mark F e; rw [hFn0] at this; omega
          have hvb : v.ownBlock ≠ some bm := fun e => by have := hF.mark bm e; rw [hb4] at this; omega
          obtain ⟨i0, hi, hz0, hz1, hz2⟩ := info_parts infoFn
          have HMAP := Lib.hid hmap
          have HALL := Lib.hid hall
          have HMH := Lib.hid hmH
          have HF := Lib.hid hF
          have HOWN := Lib.hid hownH
          have HNEW := Lib.hid hnew
          have HVG := Lib.hid hvg
          have HVF := Lib.hid hvF
          have HVB := Lib.hid hvb
          have hgb : bm ≠ g := fun e => by rw [e, hg1] at hb4; omega
          have hfb : bm ≠ F := fun e => by rw [e, hFn0] at hb4; omega
          have HGB := Lib.hid hgb
          have HFB := Lib.hid hfb
          have HG1 := Lib.hid hg1
          have HFN0 := Lib.hid hFn0
          have HCNT := Lib.hid hcnt
          have HV := Lib.hid hv
          clear hmap hall hmH hF hownH hnew hvg hvF hvb hg1 hFn0 hb4 hcnt hv hgb hfb
          go_wp2_with fail
          have hOWd : (wf.alloc (.cells #[.func Fn1 rec1 #[]] 64)).drew.ownsRow 0 64 1 v (plan p).length ((plan p).map fnOf) := HOWN.out.drew
          have hNWd : ∀ j x, ([Value.func Fn1 rec1 #[]] : List Value)[j]? = some x → (wf.alloc (.cells #[.func Fn1 rec1 #[]] 64)).drew.cell? (Addr.add ⟨wf.heap.size, 0, none⟩ j) = some x := fn_news HNEW.out
          have HOWD := Lib.hid hOWd
          have HNWD := Lib.hid hNWd
          clear hOWd hNWd
          go_region_held3 (fun w' => w'.cell? ⟨g, 8, none⟩ = some (.map (some bm)) ∧ w'.cell? ⟨F, 0, none⟩ = some (.int .i64 (p : Int)))
            (first
              | go_keep
              | (exact ⟨e84, f04⟩)
              | (exact ⟨e89, f09⟩))
            ((refine step_append_or rfl (.tmp 48) (.tmp 50) 66 rfl 64 i0 .nilFunc 8 Tryd.underlying66 hi hz0 hz1 hz2 rfl v (plan p).length ((plan p).map fnOf) rfl HOWD.out ⟨wf.heap.size, 0, none⟩ 1 1 [.func Fn1 rec1 #[]] rfl rfl (by decide) HNWD.out (fn_one Fn1 rec1) (by have := HCNT.out; unfold maxLen; omega) (by have := HCNT.out; omega) ?_; intro v4 w4 hrow4 hl4; have hl4 := lies_undrew hl4; have HROW4 := Lib.hid hrow4; have HL4 := Lib.hid hl4; have e84 := (World.cell?_of_block (a := ⟨g, 8, none⟩) (hl4.block (b := g) (by simp; omega) HVG.out)).trans e8a; have f04 := (World.cell?_of_block (a := ⟨F, 0, none⟩) (hl4.block (b := F) (by simp; omega) HVF.out)).trans f0a; obtain ⟨w9, hmu, hm9, ht9⟩ := (ownsMap_keep HMH.out (hl4.block (b := bm) (by have := HMAP.out.lt; simp; omega) HVB.out)).store keyInt Tryd.underlying56 (by unfold maxLen; omega) (key_mk hp63) (d := .held v4) (ps := []) rfl; have hl4s : (wf.alloc (.cells #[.func Fn1 rec1 #[]] 64)).heap.size ≤ w4.heap.size := lies_size hl4; simp only [World.size_alloc] at hl4s; have e89 := (World.cell?_of_block (a := ⟨g, 8, none⟩) (ht9.grown.block g (by omega) (fun e => HGB.out (Option.some.inj e).symm))).trans e84; have f09 := (World.cell?_of_block (a := ⟨F, 0, none⟩) (ht9.grown.block F (by omega) (fun e => HFB.out (Option.some.inj e).symm))).trans f04; have HM9 := Lib.hid hm9; have HT9 := Lib.hid ht9; clear hrow4 hl4 hm9 ht9))
          all_goals
            obtain ⟨own3, hP3, hO3, hs3⟩ := HPRf.out.add HMAP.out HALL.out hp0 hp63 HF.out hx14 (by rw [HFN.out]; exact HROW4.out) HL4.out HM9.out HT9.out
            have hO3' : Only own w w9 := HOf.out.trans' hO3 (fun i hi h0 => (hI.out.2.2.2 i hi).trans h0)
            have hns : ∀ j, 0 < j → (if j = p then plan p ++ [x] else plan j) = planOf (l.take (k + 1)) j := fun j hj => by
              rw [hsn.out j]
              by_cases hjp : j = p
              · subst hjp
                have : strikes ((j : Int), kd) j = true := by unfold strikes; simp; omega
                rw [if_pos rfl, this, hI.out.2.1 j hj, hx]; simp
              · have : strikes ((p : Int), kd) j = false := by unfold strikes; simp; omega
                rw [if_neg hjp, this, hI.out.2.1 j hj]; simp
            have HP3 := Lib.hid hP3
            have HO3 := Lib.hid hO3'
            have HS3 := Lib.hid (fun i (hi : i < w.heap.size) => (hs3 i (Nat.lt_of_lt_of_le hi HOf.out.size)).trans (hI.out.2.2.2 i hi))
            have HN := Lib.hid hns
            clear hP3 hO3 hs3 hO3' hns
            go_wp2_with fail
            go_roundw
            case rel => exact ⟨k + 1, own3, _, by omega, by go_num, HP3.out, HN.out, HO3.out, HS3.out⟩
            case measure => simp [intOf]; omega
        · have d1 : decide (0 < at_) = false := by simpa using hat
          have hns : ∀ j, 0 < j → plan j = planOf (l.take (k + 1)) j := fun j hj => by
            rw [hI.out.2.1 j hj, hsn.out j]
            have : strikes (at_, kd) j = false := by unfold strikes; simp; omega
            rw [this]; simp
          have HN := Lib.hid hns
          clear hns
          go_wp2_with fail
          go_roundw
          case rel => exact ⟨k + 1, own2, plan, by omega, by go_num, planrep_mono HPRf.out, HN.out, HOf.out, hI.out.2.2.2⟩
          case measure => simp [intOf]; omega
      · rw [hapV_no hkd]
        have hneq := fun W : World => run_neq_nil_nil (P := Tryd.prog) W Tryd.underlying64
        have hns : ∀ j, 0 < j → plan j = planOf (l.take (k + 1)) j := fun j hj => by
          rw [hI.out.2.1 j hj, hsn.out j]
          have : strikes (at_, kd) j = false := by unfold strikes; simp; omega
          rw [this]; simp
        have HN := Lib.hid hns
        clear hns
        go_wp2_with fail
        go_roundw
        case rel => exact ⟨k + 1, own2, plan, by omega, by go_num, planrep_mono HPRf.out, HN.out, HOf.out, hI.out.2.2.2⟩
        case measure => simp [intOf]; omega
    · have hk' : k = len := by omega
      subst hk'
      obtain ⟨hPR, hpl, hO, hs2⟩ := hI.out
      have hD : DiskAt wr g { s with begun := s.ops, plan := planOf l } own2 := by
        refine ⟨pv, gu, .map (some bm), xs, ws, hPR.blk, hPR.mark, hPR.pages, hPR.used, ?_, HR.out.page, HR.out.most, HR.out.top, Nat.le_refl _, HR.out.few, hPR.fresh⟩
        show PlanAt wr own2 (.map (some bm)) (s.ops - s.ops) (planOf l)
        rw [Nat.sub_self]
        have e : ∀ j, 0 < j → plan j = planOf l j := fun j hj => by rw [hpl j hj, List.take_of_length_le (by rw [HL.out]; exact Nat.le_refl _)]
        rcases hPR.map.at0 with ⟨h1, _⟩ | ⟨b1, n1, D1, h1, h2, h3, h4⟩
        · cases h1
        · exact .inr ⟨b1, n1, D1, h1, h2, h3, fun j hj => by
            obtain ⟨v, hv, hf⟩ := h4 j hj
            rw [e j hj] at hf
            exact ⟨v, hv, hf⟩⟩
      have HD := Lib.hid hD
      have HO := Lib.hid hO
      have HS2 := Lib.hid hs2
      clear hPR hpl hO hs2 hD
      go_wp2_with fail
      go_end0
      exact ⟨rfl, own2, HD.out, HO.out, HS2.out⟩
end Go.Proofs.YtbkiahnljklhpaaDoor
