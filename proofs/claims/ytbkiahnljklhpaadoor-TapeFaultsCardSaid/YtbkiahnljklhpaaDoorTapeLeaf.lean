/- THE WALKS OF headOf, lengthOf, Clone of numbers, freeAll. -/
import Derived.Test.YtbkiahnljklhpaaDoorTapeHold
namespace Go.Proofs.YtbkiahnljklhpaaDoor
open Go.RowKit
open Seal
theorem i64_or_nat (a b : Nat) (ha : a < 9223372036854775808) (hb : b < 9223372036854775808) : bits .or .i64 (a : Int) (b : Int) = ((a ||| b : Nat) : Int) :=
  (bits_nat .i64 63 (by decide) (fun n h0 h1 => by rw [IntKind.wrap_i64]; omega) a b (by omega) (by omega)).2
set_option maxRecDepth 100000 in
set_option maxHeartbeats 400000 in
theorem head_any (n : Nat) (w : World) :
    Calls Tryd.prog 45 #[.int .i64 ((n : Nat) : Int)] w fun e w' => e = .returned (.slice (some ⟨w.heap.size, 0, none⟩) 4 4) ∧ Row w' w.heap.size (le n 4) ∧ Below w.heap.size w w' := by
  have hmk := run_makeBytes 4 (by decide)
  rw [show ((4 : Nat) : Int) = 4 from rfl] at hmk
  go_enter Tryd.func45, Tryd.ntmps45
  go_wp2_with fail
  clear hmk
  have hR0 := Row.made (w := w) 4
  have hB0 := below_alloc w (.cells (madeCells #[.int .u8 0] 4) 5)
  generalize w.alloc (.cells (madeCells #[.int .u8 0] 4) 5) = w1 at *
  obtain ⟨g, hg⟩ : ∃ g, g = w.heap.size := ⟨_, rfl⟩
  rw [← hg] at hR0 ⊢
  have hgB : w.heap.size ≤ g := Nat.le_of_eq hg.symm
  rw [← hg] at hB0
  have HB0 := Lib.hid hB0
  have HR0 := Lib.hid hR0
  have HG := Lib.hid hg
  clear hB0 hR0 hg
  go_loopw [8] (fun i wr => ∃ k : Nat, k ≤ 4 ∧ i = .int .i64 k ∧ Row wr g (splice (List.replicate 4 0) 0 (le n k)) ∧ Below g w wr) (fun i _ => 4 - (intOf i).toNat)
  case atStart => exact ⟨0, by omega, rfl, by simpa [splice, le] using HR0.out, HB0.out⟩
  case round =>
    obtain ⟨k, hk, rfl, hRk, hG⟩ := hrel
    by_cases hlt : k < 4
    · have hsp : (splice (List.replicate 4 0) 0 (le n k)).length = 4 := by rw [length_splice _ _ _ (by rw [length_le]; simp; omega)]; simp
      have hcell := hRk.cell (j := 0 + k) (by omega)
      have hfr := hRk.frozen (0 + k)
      have hnew : (splice (List.replicate 4 0) 0 (le n k)).set (0 + k) (n / 256 ^ k % 256) = splice (List.replicate 4 0) 0 (le n (k + 1)) := splice_set _ 0 (le n k) _ _ k (length_le _ _) (by simp; omega) (le_snoc n k)
      have hset := hRk.set (0 + k) (n / 256 ^ k % 256)
      rw [hnew] at hset
      have hgr : Below g w (wr.setCell ⟨g, 0 + k, none⟩ (.int .u8 ((n / 256 ^ k % 256 : Nat) : Int))) := hG.setCell (Nat.le_refl _) _
      have ev : ((n / 256 ^ k % 256 : Nat) : Int) = (n : Int) / 2 ^ (8 * k) % 256 := by
        rw [Int.natCast_emod, Int.natCast_ediv, show (256 : Nat) ^ k = 2 ^ (8 * k) by rw [Nat.pow_mul]]; simp
      rw [ev] at hset hgr
      rw [Nat.zero_add] at hset hgr hcell hfr
      have Hset := Lib.hid hset
      have Hgr := Lib.hid hgr
      clear hset hgr hnew ev
      go_wp2_with fail
      go_roundw
      case rel => exact ⟨k + 1, by omega, by go_num, Hset.out, Hgr.out⟩
      case measure => simp [intOf]; omega
    · have hk' : k = 4 := by omega
      subst hk'
      go_wp2_with fail
      go_ret
      obtain rfl := HG.out
      exact ⟨rfl, by simpa [splice, length_le] using hRk, hG⟩
set_option maxRecDepth 100000 in
set_option maxHeartbeats 400000 in
theorem length_any (a : Option Addr) (n cap : Nat) (l : List Nat) (w : World) (hl : l.length = n) (hn : n = 4) (hb : Oct l) (hc : SliceIs w a l) :
    Calls Tryd.prog 60 #[.slice a n cap] w fun e w' => e = .returned (.int .i64 (num l : Nat)) ∧ w = w' := by
  obtain ⟨b, off, rfl, hrd⟩ := hc.resolve_left (fun e => by rw [e] at hl; simp at hl; omega)
  subst hl
  clear hc
  go_enter Tryd.func60, Tryd.ntmps60
  go_wp2_with fail
  go_loop [3, 8] (fun s i => ∃ k x : Nat, k ≤ l.length ∧ i = .int .i64 k ∧ s = .int .i64 x ∧ x = num (l.take k) ∧ x < 256 ^ k) (fun _ i => l.length - (intOf i).toNat)
  case atStart => exact ⟨0, 0, Nat.zero_le _, rfl, rfl, rfl, by decide⟩
  case round =>
    obtain ⟨k, x, hk, rfl, rfl, hxe, hx⟩ := hrel
    have Hxe := Lib.hid hxe; clear hxe
    by_cases hlt : k < l.length
    · have hcell := hrd k hlt
      have hcl : l.getD k 0 < 256 := hb _ (by rw [List.getD_eq_getElem?_getD, List.getElem?_eq_getElem hlt]; simp)
      have hgc : Hid (l[k] = l.getD k 0) := by show l[k] = _; rw [List.getD_eq_getElem?_getD, List.getElem?_eq_getElem hlt]; rfl
      generalize l.getD k 0 = c at *
      have hk4 : k < 4 := by omega
      have hmul : 256 ^ k * c < 4294967296 ∧ x + 256 ^ k * c < 256 ^ (k + 1) ∧ 256 ^ k ≤ 16777216 := by
        have h2 : 256 ^ k * c ≤ 256 ^ k * 255 := Nat.mul_le_mul_left _ (by omega)
        have h3 : 256 ^ k ≤ 256 ^ 3 := Nat.pow_le_pow_right (by decide) (by omega)
        rw [Nat.pow_succ]
        omega
      have e1 : ((c : Int) * 2 ^ (8 * k)) = ((256 ^ k * c : Nat) : Int) := by
        rw [show (256 : Nat) ^ k = 2 ^ (8 * k) by rw [Nat.pow_mul]]
        rw [Nat.mul_comm (2 ^ (8 * k)) c]
        simp
      have e2 : wrap64 ((c : Int) * 2 ^ (8 * k)) = ((256 ^ k * c : Nat) : Int) := by
        rw [← IntWalk.i64_left, e1, IntKind.wrap_i64]; omega
      have ev : bits .or .i64 (x : Int) ((256 ^ k * c : Nat) : Int) = ((x + 256 ^ k * c : Nat) : Int) := by
        rw [i64_or_nat _ _ (by omega) (by omega)]
        congr 1
        rw [Nat.or_comm, show (256 : Nat) ^ k = 2 ^ (8 * k) by rw [Nat.pow_mul], ← Nat.two_pow_add_eq_or_of_lt (by rw [Nat.pow_mul]; exact hx), Nat.add_comm]
      have hfin : x + 256 ^ k * c = num (l.take (k + 1)) := by
        rw [List.take_succ_eq_append_getElem hlt, num_append, ← Hxe.out, List.length_take, Nat.min_eq_left hk, show l[k] = c from hgc.out]
        simp [num]
      have Hfin := Lib.hid hfin
      have hb2 := hmul.2.1
      clear hfin hmul hrd hb e1
      generalize x + 256 ^ k * c = y at *
      generalize 256 ^ k * c = z at *
      go_wp2_with fail
      go_round
      case rel => exact ⟨k + 1, y, by omega, by go_num, rfl, Hfin.out, hb2⟩
      case measure => simp [intOf]; omega
    · have hk' : k = l.length := by omega
      subst hk'
      go_wp2_with fail
      go_ret
      exact ⟨ret_val (by show Value.int .i64 (x : Int) = _; rw [Hxe.out, List.take_length]), rfl⟩
theorem infoInt : (Tryd.prog.info? 3).map (fun i => (i.zero, i.size, i.bytes)) = some (some (.int .i64 0), 1, 8) := by kernel_rfl
theorem one_i64s (l : List Nat) : ∀ u ∈ i64s l, u.oneCell' = true := by
  intro u hu
  obtain ⟨n, _, rfl⟩ := List.mem_map.1 hu
  rfl
theorem Ints.news {w : World} {b off : Nat} {l : List Nat} (h : ∀ j, j < l.length → w.cell? ⟨b, off + j, none⟩ = some (.int .i64 ((l.getD j 0 : Nat) : Int))) : ∀ j u, (i64s l)[j]? = some u → w.cell? (Addr.add ⟨b, off, none⟩ j) = some u := by
  intro j u hj
  have hjl : j < l.length := by
    have := (List.getElem?_eq_some_iff.1 hj).1
    simpa [i64s] using this
  rw [add_plain, h j hjl, ← hj]
  simp [i64s, List.getD_eq_getElem?_getD, List.getElem?_eq_getElem hjl]
theorem Ints.keep {w w' : World} {a : Option Addr} {l : List Nat} (h : Ints w a l) (k : ∀ p, a = some p → w'.heap[p.block]? = w.heap[p.block]?) : Ints w' a l := by
  rcases h with h | ⟨b, off, rfl, h⟩
  · exact .inl h
  · exact .inr ⟨b, off, rfl, fun j hj => (World.cell?_of_block (a := ⟨b, off + j, none⟩) (k ⟨b, off, none⟩ rfl)).trans (h j hj)⟩
theorem Ints.below {w w' : World} {a : Option Addr} {l : List Nat} (h : Ints w a l) (hb : Below w.heap.size w w') : Ints w' a l := by
  rcases h with h | ⟨b, off, rfl, h⟩
  · exact .inl h
  · exact .inr ⟨b, off, rfl, fun j hj => (World.cell?_of_block (hb.block b (World.block_lt_of_cell? w _ (h j hj)))).trans (h j hj)⟩
set_option maxRecDepth 100000 in
set_option maxHeartbeats 400000 in
theorem cloneInts_any (a : Option Addr) (n cap : Nat) (l : List Nat) (w : World) (hl : l.length = n) (hm : n ≤ 16384) (hR : Ints w a l) (hnil : n = 0 → a = none ∧ cap = 0) :
    Calls Tryd.prog 39 #[.slice a n cap] w fun e w' => ∃ v, e = .returned v ∧ w'.ownsRow 0 3 1 v n (i64s l) ∧ Below w.heap.size w w' ∧ (∀ b, v.ownBlock = some b → w.heap.size ≤ b) := by
  obtain ⟨i0, hi, hz0, hz1, hz2⟩ := info_parts infoInt
  have he := fun u : World => Lib.run_eql_slice_nil (P := Tryd.prog) u 68 3 a n cap 0 0 Tryd.underlying68
  rcases Nat.eq_zero_or_pos n with h1 | h0
  · obtain ⟨rfl, rfl⟩ := hnil h1
    subst h1
    have hl0 : l = [] := List.eq_nil_of_length_eq_zero hl
    subst hl0
    simp only [Option.isNone_none] at he
    clear hR hnil hl
    go_enter Tryd.func39, Tryd.ntmps39
    go_wp2_with fail
    go_ret
    exact ⟨_, rfl, World.ownsRow_nil _ _ _ _, Below.refl _ _, fun b hb => by simp [Value.ownBlock] at hb⟩
  · obtain ⟨b, off, e, hrd⟩ := hR.resolve_left (fun e => by rw [e] at hl; simp at hl; omega)
    subst e
    simp only [Option.isNone_some] at he
    have hown : (w.alloc (.cells #[] 3)).ownsRow w.heap.size 3 1 (.slice (some ⟨w.heap.size, 0, none⟩) 0 0) 0 [] := World.ownsRow_lit w #[] 0 (Nat.le_refl _) (by decide) rfl
    have HOWN := Lib.hid hown
    have hbl : b < w.heap.size := World.block_lt_of_cell? w _ (hrd 0 (by omega))
    have hnews : ∀ j u, (i64s l)[j]? = some u → (w.alloc (.cells #[] 3)).cell? (Addr.add ⟨b, off, none⟩ j) = some u := Ints.news fun j hj => (World.cell?_of_block (Below.heap_alloc w _ b hbl)).trans (hrd j hj)
    have HN := Lib.hid hnews
    have HLen := Lib.hid hl
    clear hR hrd hnews hown hnil hl
    go_enter Tryd.func39, Tryd.ntmps39
    go_wp2_with (at_builtin; refine wpList_append_own _ rfl _ _ 68 rfl w.heap.size 3 i0 (.int .i64 0) 1 8 Tryd.underlying68 hi hz0 hz1 hz2 rfl (by decide) _ 0 _ rfl HOWN.out ⟨b, off, none⟩ n cap (i64s l) rfl ?c1 HN.out (one_i64s l) ?c2 ?c3 ?c4 ?_)
    case c1 => simp [i64s]; exact HLen.out
    case c2 => unfold maxLen; omega
    case c3 => omega
    case c4 => simp
    intro v w2 hown2 hg2 _
    have HOWN2 := Lib.hid hown2
    have HB : Hid (Below w.heap.size w w2) := ((Below.refl _ _).alloc (Nat.le_refl _) _).grown hg2 (by simp) (fun k hk => by simp [Value.ownBlock] at hk; omega)
    clear hown2 hg2
    go_wp2_with fail
    go_ret
    exact ⟨v, rfl, by simpa using ownsRow_base (Nat.zero_le _) HOWN2.out, HB.out, fun b hb => (HOWN2.out.lt b hb).1⟩
/-- What a row of frees leaves. -/
def freed (s : Disk.St) (P : List Nat) : Disk.St := { s with ops := s.ops + P.length, pages := Disk.gone s.pages P }
theorem used_gone_snoc {l : Disk.Pages} {P : List Nat} {n : Nat} (hn : (P ++ [n]).Nodup) (hu : ∀ m ∈ P ++ [n], Disk.used l m = true) : Disk.used (Disk.gone l P) n = true := by
  rw [Disk.used_gone l P (fun m hm => hu m (by simp [hm])), hu n (by simp)]
  have := (List.nodup_append.1 hn).2.2
  simp
  exact fun h => this n h n (by simp) rfl
set_option maxRecDepth 100000 in
set_option maxHeartbeats 1000000 in
theorem freeAll_any (g : Nat) (s : Disk.St) (own : Nat → Nat) (a : Option Addr) (n cap : Nat) (P : List Nat) (w : World) (h : DiskAt w g s own) (ho : s.ops + n < 4611686018427387904) (hl : P.length = n) (hm : n ≤ 16384) (hR : Ints w a P) (ha : ∀ p, a = some p → own p.block = 0)
    (hnd : P.Nodup) (hu : ∀ m ∈ P, Disk.used s.pages m = true) :
    Calls Tryd.prog 35 #[.pointer (some ⟨g, 0, none⟩), .slice a n cap] w fun e w' => e = .returned (.tuple #[]) ∧ DiskAt w' g (freed s P) own ∧ Only own w w' := by
  have HD := Lib.hid h
  have HL := Lib.hid hl
  have HR := Lib.hid hR
  have HA := Lib.hid ha
  have HND := Lib.hid hnd
  have HU := Lib.hid hu
  clear h hl hR ha hnd hu
  go_enter Tryd.func35, Tryd.ntmps35
  go_wp2_with fail
  go_loopw [8] (fun i wr => ∃ k : Nat, k ≤ n ∧ i = .int .i64 k ∧ DiskAt wr g (freed s (P.take k)) own ∧ Only own w wr) (fun i _ => n - (intOf i).toNat)
  case atStart => exact ⟨0, Nat.zero_le _, rfl, by simpa [freed, Disk.gone] using HD.out, Only.refl _ _⟩
  case round =>
    obtain ⟨k, hk, rfl, hDk, hOk⟩ := hrel
    by_cases hlt : k < n
    · obtain ⟨b, off, rfl, hrd⟩ := HR.out.resolve_left (fun e => by have := HL.out; rw [e] at this; simp at this; omega)
      have hkP : k < P.length := by rw [HL.out]; exact hlt
      have hc0 := hrd k hkP
      have hck : wr.cell? ⟨b, off + k, none⟩ = some (.int .i64 ((P.getD k 0 : Nat) : Int)) := (World.cell?_of_block (hOk.block b (World.block_lt_of_cell? w _ hc0) (HA.out _ rfl))).trans hc0
      have hts : P.take (k + 1) = P.take k ++ [P.getD k 0] := by rw [List.take_succ_eq_append_getElem hkP, List.getD_eq_getElem?_getD, List.getElem?_eq_getElem hkP]; rfl
      have hndk : (P.take (k + 1)).Nodup := HND.out.sublist (List.take_sublist _ _)
      rw [hts] at hndk
      have huk := used_gone_snoc (l := s.pages) hndk (fun m hm => HU.out m (by rw [← hts] at hm; exact List.mem_of_mem_take hm))
      have hlk : (P.take k).length = k := by rw [List.length_take]; omega
      have C := free_ok g (freed s (P.take k)) own (P.getD k 0) wr hDk (by show s.ops + (P.take k).length < _; omega) huk
      have e2 : ({ tick (freed s (P.take k)) with pages := Disk.put (freed s (P.take k)).pages (P.getD k 0) none } : Disk.St) = freed s (P.take (k + 1)) := by
        rw [hts]
        simp [freed, tick, Disk.gone_snoc, Nat.add_assoc]
      rw [e2] at C
      have HC := Lib.hid C
      have HOk := Lib.hid hOk
      clear C e2 hDk hOk huk hndk hts hc0 hrd hlk hkP
      generalize P.getD k 0 = p at *
      go_wp2_with fail
      refine HC.out.mono ?_
      rintro e w1 ⟨rfl, hD1, hO1⟩
      have HD1 := Lib.hid hD1
      have HO1 := Lib.hid hO1
      clear hD1 hO1 HC
      go_wp2_with fail
      go_roundw
      case rel => exact ⟨k + 1, by omega, by go_num, HD1.out, HOk.out.trans HO1.out⟩
      case measure => simp [intOf]; omega
    · have hk' : k = n := by omega
      subst hk'
      have e3 : P.take k = P := List.take_of_length_le (by rw [HL.out]; exact Nat.le_refl _)
      rw [e3] at hDk
      have HDk := Lib.hid hDk
      have HOk := Lib.hid hOk
      clear hDk hOk e3
      go_wp2_with fail
      go_end0
      exact ⟨rfl, HDk.out, HOk.out⟩
end Go.Proofs.YtbkiahnljklhpaaDoor
