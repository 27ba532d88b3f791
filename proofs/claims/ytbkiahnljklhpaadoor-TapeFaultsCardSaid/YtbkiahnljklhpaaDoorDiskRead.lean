/- THE WALKS OF Clone, Look, Read, Live, Ops. -/
import Derived.Test.YtbkiahnljklhpaaDoorDiskBegin
namespace Go.Proofs.YtbkiahnljklhpaaDoor
open Go.RowKit
open Seal
theorem infoByte : (Tryd.prog.info? 5).map (fun i => (i.zero, i.size, i.bytes)) = some (some (.int .u8 0), 1, 1) := by kernel_rfl
theorem one_octs (l : List Nat) : ∀ u ∈ u8s l, u.oneCell' = true := by
  intro u hu
  obtain ⟨n, _, rfl⟩ := List.mem_map.1 hu
  rfl
/-- A new slice of bytes: its own block, from B on, which may be written. -/
structure NewBytes (w : World) (B : Nat) (v : Value) (l : List Nat) : Prop where
  ex : ∃ g cap rest, v = .slice (some ⟨g, 0, none⟩) l.length cap ∧ B ≤ g ∧ Row w g (l ++ rest) ∧ cap = l.length + rest.length ∧ cap ≤ 9223372036854775807
theorem newBytes_of_row {w : World} {B : Nat} {v : Value} {l : List Nat} (h0 : 0 < l.length) (h : w.ownsRow B 5 1 v l.length (u8s l)) : ∃ g cap cur, v = .slice (some ⟨g, 0, none⟩) l.length cap ∧ B ≤ g ∧ w.heap[g]? = some (.cells cur 5 (0, 0)) ∧ cur.toList.take l.length = u8s l ∧ l.length ≤ cap ∧ cap ≤ 9223372036854775807 ∧ cur.size = cap := by
  rcases h.2 with ⟨_, h2⟩ | ⟨g, cap, cur, rfl, hb, hg, hnc, hcm, hcs, htake⟩
  · omega
  · exact ⟨g, cap, cur, rfl, hb, hg, by simpa using htake, hnc, hcm, by simpa using hcs⟩
set_option maxRecDepth 100000 in
set_option maxHeartbeats 400000 in
theorem clone_any (b : Nat) (cap : Nat) (l : List Nat) (w : World) (h0 : 0 < l.length) (hm : l.length ≤ 140737488355328) (hR : Reads w b 0 l) :
    Calls Tryd.prog 27 #[.slice (some ⟨b, 0, none⟩) l.length cap] w fun e w' => ∃ v, e = .returned v ∧ w'.ownsRow w.heap.size 5 1 v l.length (u8s l) ∧ Below w.heap.size w w' := by
  obtain ⟨i0, hi, hz0, hz1, hz2⟩ := info_parts infoByte
  have hbl : b < w.heap.size := World.block_lt_of_cell? w _ (hR 0 h0)
  have he := fun u : World => Lib.run_eql_slice_nil (P := Tryd.prog) u 29 5 (some ⟨b, 0, none⟩) l.length cap 0 0 Tryd.underlying29
  simp only [Option.isNone_some] at he
  have hown : (w.alloc (.cells #[] 5)).ownsRow w.heap.size 5 1 (.slice (some ⟨w.heap.size, 0, none⟩) 0 0) 0 [] := World.ownsRow_lit w #[] 0 (Nat.le_refl _) (by decide) rfl
  have hnews : ∀ j u, (u8s l)[j]? = some u → (w.alloc (.cells #[] 5)).cell? (Addr.add ⟨b, 0, none⟩ j) = some u := by
    intro j u hj
    have hjl : j < l.length := by
      have := (List.getElem?_eq_some_iff.1 hj).1
      simpa [u8s] using this
    have e : (⟨b, 0, none⟩ : Addr).add j = ⟨b, 0 + j, none⟩ := by unfold Addr.add; split <;> simp_all
    rw [e, World.cell?_of_block (Below.heap_alloc w _ b hbl), hR j hjl, ← hj]
    simp [u8s, u8, List.getD_eq_getElem?_getD, List.getElem?_eq_getElem hjl]
  have HOWN := Lib.hid hown
  have HN := Lib.hid hnews
  clear hR hown hnews
  go_enter Tryd.func27, Tryd.ntmps27
  go_wp2_with (at_builtin; refine wpList_append_own _ rfl _ _ 29 rfl w.heap.size 5 i0 (.int .u8 0) 1 1 Tryd.underlying29 hi hz0 hz1 hz2 rfl (by decide) _ 0 _ rfl HOWN.out ⟨b, 0, none⟩ l.length cap (u8s l) rfl ?c1 HN.out (one_octs l) ?c2 ?c3 ?c4 ?_)
  case c1 => simp [u8s]
  case c2 => unfold maxLen; omega
  case c3 => omega
  case c4 => simp
  intro v w2 hown2 hg2 _
  have HOWN2 := Lib.hid hown2
  have HB : Hid (Below w.heap.size w w2) := ((Below.refl _ _).alloc (Nat.le_refl _) _).grown hg2 (by simp) (fun k hk => by simp [Value.ownBlock] at hk; omega)
  clear hown2 hg2
  go_wp2_with fail
  go_ret
  exact ⟨v, rfl, HOWN2.out, HB.out⟩
theorem has_true {s : Disk.St} {n : Int} (h : hasB s.pages n = true) : ∃ k : Nat, n = (k : Int) ∧ Disk.used s.pages k = true := by
  unfold hasB at h
  simp only [Bool.and_eq_true, decide_eq_true_eq] at h
  obtain ⟨k, rfl⟩ := Int.eq_ofNat_of_zero_le h.1
  exact ⟨k, rfl, by simpa using h.2⟩
/-- The page of a number that is in use: its slice in the row of pages, and its bytes. -/
theorem page_at {w : World} {g : Nat} {s : Disk.St} {own : Nat → Nat} {pv : Value} {gu : Nat} {mv : Value} {xs : List Value} {ws : List Nat} (R : DiskRep w g s own pv gu mv xs ws) {k : Nat} {bs : List Nat} (hp : s.pages.getD k none = some bs) :
    ∃ a cap b, k < s.pages.length ∧ pv = .slice (some ⟨a, 0, none⟩) s.pages.length cap ∧ s.pages.length ≤ cap ∧ w.cell? ⟨a, k, none⟩ = some (.slice (some ⟨b, 0, none⟩) s.page s.page) ∧ own b = 11 + 2 * k ∧ Row w b bs ∧ bs.length = s.page ∧ Oct bs := by
  have hu : Disk.used s.pages k = true := by unfold Disk.used; rw [hp]; rfl
  have hk := Disk.used_lt hu
  obtain ⟨a, cap, hpv, hnc, _, _, hrow⟩ := row_form R.pages.row
  obtain ⟨b, rfl, _, hc, _⟩ := hrow (by omega)
  have hat := R.pages.at_ k hk
  rw [hp] at hat
  obtain ⟨bb, hv, ho, hr, hl, hoct⟩ := hat
  refine ⟨b, cap, bb, hk, hpv, hnc, ?_, ho, hr, hl, hoct⟩
  rw [hc k hk, hv]
set_option maxRecDepth 100000 in
set_option maxHeartbeats 400000 in
theorem live_any (g : Nat) (s : Disk.St) (own : Nat → Nat) (w : World) (h : DiskAt w g s own) :
    Calls Tryd.prog 18 #[.pointer (some ⟨g, 0, none⟩)] w fun e w' => e = .returned (.int .i64 (Disk.live s.pages : Nat)) ∧ w = w' := by
  obtain ⟨pv, gu, mv, xs, ws, R⟩ := h
  have c4 := R.blk.c4
  clear R
  go_enter Tryd.func18, Tryd.ntmps18
  go_wp2_with fail
  go_ret
  exact ⟨rfl, rfl⟩
end Go.Proofs.YtbkiahnljklhpaaDoor
