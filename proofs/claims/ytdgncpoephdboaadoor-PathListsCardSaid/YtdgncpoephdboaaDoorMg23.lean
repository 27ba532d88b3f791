/- PathATop. -/
import Derived.Test.YtdgncpoephdboaaDoorMg22
set_option maxRecDepth 100000
section
namespace Go.Proofs.YtdgncpoephdboaaDoor
open Go.RowKit
open Seal
open Bson (Val)
theorem aall_any (H : Nat) : ∀ (n h : Nat) (p : List ByteArray) (pa : Option Addr) (pn pc : Nat), p.length + h ≤ n → h + 1 ≤ H → p.length = pn → pn ≤ pc → AllAt H (h + 1) p pa pn pc (fun x => Bson.all n x p)
  | n, h, [], pa, pn, pc, _, hH, hpn, _ => by
    obtain rfl : 0 = pn := hpn
    exact aall_empty H h hH pa pc n
  | 0, h, a :: r, pa, pn, pc, hle, _, _, _ => by simp at hle
  | m + 1, h, a :: r, pa, pn, pc, hle, hH, hpn, hpc => by
    intro base v QA ys xs x u w ha hbase hv hp hN
    have hp2 := hp
    obtain ⟨g, o, rfl, hog, hcell⟩ := hp.resolve_left (by simp)
    simp only [List.length_cons] at hle hpn
    by_cases h6 : x.kind = 6
    · by_cases hc1 : pc = 1
      · subst hc1
        obtain rfl : pn = 1 := by omega
        refine aall_last H h hH a r g o m ?_ base v QA ys xs x u w (by simpa using hpn) h6 ha hbase hv hog hcell hN
        cases r with
        | nil => exact aall_empty H h hH _ 0 m
        | cons b t => simp at hpn
      · exact aall_doc H h hH a r g o pn pc m (aall_any H m h r _ (pn - 1) (pc - 1) (by omega) hH (by omega) (by omega)) base v QA ys xs x u w (by simpa using hpn) hpc hc1 h6 ha hbase hv hog hcell hN
    · by_cases h7 : x.kind = 7
      · refine aall_items H h (by omega) (a :: r) _ pn pc m ?_ base v QA ys xs x u w (by simp) (by simpa using hpn) h7 ha hbase hv hp2 hN
        cases h with
        | zero => intro _ _ _ _ _ _ _ _ _ _ hv _ _; exact hv.elim
        | succ h => exact aall_any H m h (a :: r) _ pn pc (by simp; omega) (by omega) (by simpa using hpn) hpc
      · exact aall_else H h (by omega) (a :: r) _ pn pc (m + 1) base v QA ys xs x u w (by simp) (by simpa using hpn) h6 h7 ha hbase hv hN
end Go.Proofs.YtdgncpoephdboaaDoor
end
