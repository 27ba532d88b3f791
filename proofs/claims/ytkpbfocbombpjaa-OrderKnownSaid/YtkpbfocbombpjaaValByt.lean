/- A value's bytes (no walk). -/
import Derived.Test.YtkpbfocbombpjaaValLets
namespace Go.Proofs.Ytkpbfocbombpjaa
open Go.RowKit
open Seal
open Bson (Val)
theorem VIn.byt {w : World} {Q : Nat → Prop} {h : Nat} {x : Val} {k n : Int} {s : ByteArray} {ba fa la : Option Addr} {bn bc fn fc ln lc : Nat} (hv : VIn w Q (h + 1) x (.agg #[.int .i64 k, .int .i64 n, .string s, .slice ba bn bc, .slice fa fn fc, .slice la ln lc])) : Oct x.b ∧ SliceIs w ba x.b := by
  obtain ⟨ba', fa', la', bc', fc', lc', e, hL, _, _, _, hB, _⟩ := hv
  unfold agg at e
  injection e with e; injection e with e; injection e with _ e; injection e with _ e; injection e with _ e; injection e with e3 _
  injection e3 with e3 _ _
  subst e3
  refine ⟨hL.o, ?_⟩
  rcases hB with h | ⟨g, o, e, _, h⟩
  · exact .inl h
  · exact .inr ⟨g, o, e, h⟩
end Go.Proofs.Ytkpbfocbombpjaa
