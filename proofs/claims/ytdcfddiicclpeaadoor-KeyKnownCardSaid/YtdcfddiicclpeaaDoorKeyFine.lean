/- key.Encode of a row whose values all fit, and are few. -/
import Derived.Test.YtdcfddiicclpeaaDoorKeyEncode
import Derived.Test.YtdcfddiicclpeaaDoorKeyBound
import Derived.Test.YtdcfddiicclpeaaDoorKeyRows
namespace Go.Proofs.YtdcfddiicclpeaaDoor
open Go.RowKit
open Seal
open Bson (Val)
/-- What Encode leaves, of a row whose values all fit. -/
theorem encode_fine (h : Nat) (Q : Nat → Prop) (a : Option Addr) (n c : Nat) (l : List Val) (s : Option Addr) (nd cd : Nat) (bl : List Bool) (w0 w : World) (hb : Below w0.heap.size w0 w) (hn : l.length = n) (hnb : n ≤ 30) (hI : ItemsIn w Q (VIn w Q h) a l)
    (hd : bl.length = nd) (hD : BoolsIn w Q s bl) (hndb : nd ≤ 140737488355328) (hQ : ∀ g, Q g → g < w0.heap.size) (hX : Maxl w0 w0.heap.size) (hw : ∀ x ∈ l, wt h x ≤ 3000) (hf : ∀ x ∈ l, Key.fits 34 x) :
    Calls Tryd.prog 26 #[.slice a n c, .slice s nd cd] w fun e w' => ∃ (a' : Option Addr) (c' m : Nat), e = .returned (.slice a' m c') ∧ SliceIs w' a' (Key.encB 34 bl l 0) ∧ m = (Key.encB 34 bl l 0).length ∧ m ≤ 990000 ∧ Oct (Key.encB 34 bl l 0) ∧ Below w.heap.size w w' := by
  have hlen : (Key.encB 34 bl l 0).length ≤ 990000 := by
    have := enc_le 34 h bl l 0 (fun x hx => by obtain ⟨v, hv⟩ := hI.mem hx; exact hv.hgt) hw
    omega
  refine (encode_key h Q a n c l s nd cd bl w hn (by omega) hI hd hD hndb (fun g hg => Nat.lt_of_lt_of_le (hQ g hg) hb.size) ((hX.keep hb).mono hb.size) (by omega)).mono ?_
  rintro e w' ⟨a', c', r, rfl, hS, hO, hr, _, hb'⟩
  obtain rfl := hr hf
  exact ⟨a', c', _, rfl, hS, rfl, hlen, hO, hb'⟩
end Go.Proofs.YtdcfddiicclpeaaDoor
