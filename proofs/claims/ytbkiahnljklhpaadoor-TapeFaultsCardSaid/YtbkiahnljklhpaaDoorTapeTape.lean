/- THE WALKS OF Reader's Next AND OF Tape's Open, Count, Pages, Drop. -/
import Derived.Test.YtbkiahnljklhpaaDoorTapeNext
namespace Go.Proofs.YtbkiahnljklhpaaDoor
open Go.RowKit
open Seal
/-- A reader ahead of the records rs, j pages read, p bytes brought. -/
structure Rdr (B : Nat) (w : World) (g gl gr : Nat) (s : Disk.St) (own : Nat → Nat) (hb : Bool) (P S : List Nat) (rs : List (List Nat)) (j p : Nat) (pa da : Option Addr) : Prop where
  mem : ∃ pc dc, RdMem w gr g gl s.page hb (P.drop j) (atHand s S j p) rs.length pa pc da dc
  free : Free B gl w own (RFoot gr da)
  els : Else pa gl own (RFoot gr da)
  old : ∀ q, pa = some q → q.block < w.heap.size
  hj : j ≤ P.length
  pin : p ≤ min (j * (s.page - 10)) S.length
  rest : S.drop p = Tape.stream rs
  good : ∀ i, i < j → Tape.Good s P S i
/-- What a Next leaves, with records to come. -/
structure NextPost (B g gl gr : Nat) (s : Disk.St) (own : Nat → Nat) (L : Int × Int × Int) (hb : Bool) (P S : List Nat) (r : List Nat) (rest : List (List Nat)) (j p : Nat) (pa da : Option Addr) (w : World) (E : Nat) (v : Value) (w' : World) (s' : Disk.St) (L' : Int × Int × Int) : Prop where
  sys : Sys B w' g gl s' own L'
  same : Disk.Same s s'
  pages : s'.pages = s.pages
  ops : s'.ops ≤ s.ops + (4 + r.length)
  err : E = 0 ∨ E = 16 ∨ E = 18
  ok : E = 0 → L' = L ∧ w'.ownsRow w.heap.size 5 1 v r.length (u8s r) ∧ ∃ j' pa' da', j ≤ j' ∧ Rdr B w' g gl gr s' own hb P S rest j' (p + (4 + r.length)) pa' da' ∧ Move B gl w w' own own (RFoot gr da) (RFoot gr da') ∧ (∀ b, v.ownBlock = some b → ¬ RFoot gr da' b) ∧ (∀ q, pa' = some q → ∃ q', pa = some q' ∧ q.block = q'.block)
  bad : E ≠ 0 → L' = backL hb s.page L ∧ v = .slice none 0 0 ∧ Over7 w' gr RdT ∧ Move B gl w w' own own (RFoot gr da) (fun b => b = gr)
  calm : Disk.Calm s → E ≠ 16
  good : Disk.Calm s → (∀ i, i < P.length → Tape.Good s P S i) → E = 0
def NextEnd (B g gl gr : Nat) (s : Disk.St) (own : Nat → Nat) (L : Int × Int × Int) (hb : Bool) (P S : List Nat) (r : List Nat) (rest : List (List Nat)) (j p : Nat) (pa da : Option Addr) (w : World) (e : Ending) (w' : World) : Prop :=
  ∃ (E : Nat) (v : Value) (s' : Disk.St) (L' : Int × Int × Int), e = .returned (.tuple #[v, .bool (decide (E = 0)), .int .i64 (E : Int)]) ∧ NextPost B g gl gr s own L hb P S r rest j p pa da w E v w' s' L'
set_option maxRecDepth 100000 in
set_option maxHeartbeats 2000000 in
theorem next_any (B g gl gr : Nat) (s : Disk.St) (own : Nat → Nat) (L : Int × Int × Int) (hb : Bool) (P S : List Nat) (r : List Nat) (rest : List (List Nat)) (j p : Nat) (pa da : Option Addr) (w : World) (hS : Sys B w g gl s own L) (hT : Tape.Tp s P S) (hR : Rdr B w g gl gr s own hb P S (r :: rest) j p pa da)
    (hrl : r.length < 4294967296) (hrs : rest.length < 1099511627776) (ho : s.ops + (4 + r.length) < 4611686018427387900) :
    Calls Tryd.prog 34 #[.pointer (some ⟨gr, 0, none⟩)] w (NextEnd B g gl gr s own L hb P S r rest j p pa da w) := by
  obtain ⟨pc, dc, hM⟩ := hR.mem
  have hrest := hR.rest
  rw [Tape.stream_cons] at hrest
  have c6 := hM.obj.c6
  have c5 := hM.obj.c5
  unfold nat at c5
  rw [List.length_cons] at c5
  have d5 : (((rest.length + 1 : Nat) : Int) == 0) = false := by rw [beq_eq_false_iff_ne]; omega
  have HC1 := Lib.hid (record_any B g gl gr s own L hb P S j p (r :: rest).length r (Tape.stream rest) pa pc da dc w hS hT hM hR.free hR.els hR.old hR.hj hR.pin hrest hrl ho)
  have HS := Lib.hid hS
  have HT := Lib.hid hT
  have HR := Lib.hid hR
  have HRest := Lib.hid hrest
  have hgrw := hM.obj.lt
  obtain ⟨n, hn⟩ : ∃ n, n = rest.length := ⟨_, rfl⟩
  rw [← hn] at c5 d5 hrs
  have HN := Lib.hid hn
  clear hS hT hR hM hrest hn
  go_enter Tryd.func34, Tryd.ntmps34
  go_wp2_with fail
  refine HC1.out.mono ?_
  rintro e w1 ⟨E, v, s1, da1, rfl, hT1⟩
  have hgrne : gr ≠ gl := (HR.out.free gr (.inl rfl)).2.2.1
  by_cases hE : E = 0
  · subst hE
    obtain ⟨j1, pa1, pc1, dc1, hI⟩ := hT1.ok rfl
    have c51 := hI.mem.obj.c5
    unfold nat at c51
    rw [List.length_cons, ← HN.out] at c51
    have f51 := hI.mem.obj.fr 5
    have hI3 : IntKind.i64.wrap (((n + 1 : Nat) : Int) - 1) = (n : Int) := by rw [IntWalk.i64_in _ (by omega)]; omega
    have hI4 : ((n + 1 : Nat) : Int) - 1 = (n : Int) := by omega
    obtain ⟨va, vn, vc, hv⟩ := row_slice hI.row
    subst hv
    have HI := Lib.hid hI
    have HT1 := Lib.hid hT1
    clear hI hT1 HC1
    go_wp2_with fail
    go_ret3
    have h := HI.out
    have h1 := HT1.out
    have hpg := h1.same.page
    have hTo : Touch (RFoot gr da1) w1 (w1.setCell ⟨gr, 5, none⟩ (.int .i64 (n : Int))) := (Touch.refl _ _).setCell (.inl (.inl rfl)) _
    have hset : ∀ x, x ≠ gr → (w1.setCell ⟨gr, 5, none⟩ (.int .i64 (n : Int))).heap[x]? = w1.heap[x]? := fun x hx => Below.heap_setCell _ _ _ _ (fun e => hx e)
    have hszs : (w1.setCell ⟨gr, 5, none⟩ (.int .i64 (n : Int))).heap.size = w1.heap.size := by simp [World.setCell]
    have hfo : ∀ x, RFoot gr da1 x → (x < w1.heap.size → RFoot gr da1 x) ∧ x < (w1.setCell ⟨gr, 5, none⟩ (.int .i64 (n : Int))).heap.size := fun x hx => ⟨fun _ => hx, by rw [hszs]; exact (h1.move.free x hx).2.2.2⟩
    obtain ⟨hs4, hv4⟩ := push_fin h1.sys h1.move hTo hfo
    have hvgr : ∀ b, (Value.slice va vn vc).ownBlock = some b → ¬ RFoot gr da1 b := fun b hb2 hf => by
      rcases hf with rfl | ⟨q, hq, e⟩
      · have := (h.row.lt b hb2).1; omega
      · exact h.apart b q hb2 hq e
    refine ⟨0, .slice va vn vc, s1, L, rfl, hs4, h1.same, h1.pages, h1.ops, .inl rfl, fun _ => ⟨rfl, ?_, j1, pa1, da1, h.lo, ⟨?_, hv4.free, h.else_, fun q hq => ?_, h.hi, by rw [hpg]; exact h.in_, ?_, fun i hi => ?_⟩, hv4, hvgr, h.from_⟩, fun h0 => absurd rfl h0, fun _ => by decide, fun _ _ => rfl⟩
    · exact ownsRow_keep h.row fun b hb2 => hset b (fun e => hvgr b hb2 (.inl e))
    · refine ⟨pc1, dc1, ?_⟩
      have hm := h.mem
      rw [hpg, atHand_same hpg]
      refine ⟨?_, ?_, ?_, hm.oct, hm.pcap, hm.dcap, hm.dgr⟩
      · have := hm.obj.s5 (.int .i64 (n : Int))
        rw [show nat rest.length = .int .i64 (n : Int) by unfold nat; rw [HN.out]]
        exact this
      · rcases hm.rows with e | ⟨b, off, e, h2⟩
        · exact .inl e
        · exact .inr ⟨b, off, e, fun i hi => (World.cell?_of_block (a := ⟨b, off + i, none⟩) (hset b (fun e3 => (h.else_ _ e).2.2 (.inl e3)))).trans (h2 i hi)⟩
      · rcases hm.data with e | ⟨b, off, e, h2⟩
        · exact .inl e
        · exact .inr ⟨b, off, e, fun i hi => (World.cell?_of_block (a := ⟨b, off + i, none⟩) (hset b (hm.dgr _ e))).trans (h2 i hi)⟩
    · obtain ⟨q', hq', e⟩ := h.from_ q hq
      have h3 := HR.out.old q' hq'
      have h4 := h1.move.touch.size
      rw [hszs]; omega
    · rw [← List.drop_drop, HRest.out]
      exact List.drop_left' (Tape.length_frame r)
    · rcases Nat.lt_or_ge i j with h5 | h5
      · exact (good_same hpg h1.pages).2 (HR.out.good i h5)
      · exact (good_same hpg h1.pages).2 (h.good i h5 hi)
  · have dE : ((E : Int) != 0) = true := by rw [bne_iff_ne]; omega
    obtain ⟨pv1, dv1, hobj1⟩ := hT1.any
    have hpg := hT1.same.page
    have HC2 := Lib.hid (rclose_any gr gl s.page hb (ptr g) pv1 dv1 (nat (r :: rest).length) (.bool false) L w1 hobj1 hT1.sys.led hT1.sys.fair hgrne)
    have HT1 := Lib.hid hT1
    have HE := Lib.hid hE
    clear hT1 hE HC1 hobj1 hpg
    go_wp2_with fail
    refine HC2.out.mono ?_
    rintro e w2 ⟨rfl, hOv, hL, hTo⟩
    have HOv := Lib.hid hOv
    have HL := Lib.hid hL
    have HTo := Lib.hid hTo
    clear hOv hL hTo HC2
    go_wp2_with fail
    go_ret3
    have h := HT1.out
    have hv := h.bad HE.out
    have hT2 : Touch (fun x => x = gl ∨ RFoot gr da1 x) w1 w2 := HTo.out.mono fun _ _ h => h.elim .inl (fun h => .inr (.inl h))
    refine ⟨E, .slice none 0 0, s1, backL hb s.page L, ?_, h.sys.led' HL.out (backL_fair h.sys.fair) hT2 (fun b hb2 => ⟨(h.move.free b hb2).1, (h.move.free b hb2).2.1⟩), h.same, h.pages, h.ops, h.err, fun h0 => absurd h0 HE.out, fun _ => ⟨rfl, rfl, HOv.out, h.move.trans (Move.of_led h.move.free hT2 fun b hb2 => .inl hb2)⟩, h.calm, fun hc hg => ?_⟩
    · rw [decide_eq_false HE.out]; rfl
    · refine h.good hc fun i _ hi => hg i ?_
      have h5 : Tape.need (s.page - 10) (p + (4 + r.length)) ≤ P.length := by
        rw [HT.out.len]
        exact Tape.need_mono (frame_at HRest.out).1
      omega
set_option maxRecDepth 100000 in
set_option maxHeartbeats 1000000 in
theorem next_none (B g gl gr : Nat) (s : Disk.St) (own : Nat → Nat) (L : Int × Int × Int) (hb : Bool) (P S : List Nat) (j p : Nat) (pa da : Option Addr) (w : World) (hS : Sys B w g gl s own L) (hR : Rdr B w g gl gr s own hb P S [] j p pa da) :
    Calls Tryd.prog 34 #[.pointer (some ⟨gr, 0, none⟩)] w fun e w' => e = .returned (.tuple #[.slice none 0 0, .bool false, .int .i64 0]) ∧ Sys B w' g gl s own (backL hb s.page L) ∧ Move B gl w w' own own (RFoot gr da) (RFoot gr da) := by
  obtain ⟨pc, dc, hM⟩ := hR.mem
  have c6 := hM.obj.c6
  have c5 : w.cell? ⟨gr, 5, none⟩ = some (.int .i64 0) := hM.obj.c5
  have hgrne : gr ≠ gl := (hR.free gr (.inl rfl)).2.2.1
  have HC := Lib.hid (hold_end gr gl s.page hb RdT (ptr g) _ _ _ _ L w hM.obj hS.led hS.fair hgrne)
  have HS := Lib.hid hS
  have HR := Lib.hid hR
  clear hS hR hM
  go_enter Tryd.func34, Tryd.ntmps34
  go_wp2_with fail
  refine HC.out.mono ?_
  rintro e w1 ⟨rfl, hO, hL, hT⟩
  have HL := Lib.hid hL
  have HT := Lib.hid hT
  clear hO hL hT HC
  go_wp2_with fail
  go_ret3
  have hF := HR.out.free
  have hT2 : Touch (fun x => x = gl ∨ RFoot gr da x) w w1 := HT.out.mono fun _ _ h => h.elim .inl (fun h => .inr (.inl h))
  exact ⟨rfl, HS.out.led' HL.out (backL_fair HS.out.fair) hT2 (fun b hb2 => ⟨(hF b hb2).1, (hF b hb2).2.1⟩), Move.of_led hF hT2 fun _ h => h⟩
end Go.Proofs.YtbkiahnljklhpaaDoor
