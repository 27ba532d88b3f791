/- RefOwnZ. -/
import Derived.Test.YtngllchoiffniaaGreatDoorMo31
import Derived.Test.YtngllchoiffniaaGreatDoorMo32
set_option maxRecDepth 100000
set_option maxHeartbeats 20000000
section
namespace Go.Proofs.YtngllchoiffniaaGreatDoor
open Go.RowKit
open Seal
open Bson (Val)
theorem own_step (h : Nat) (HF : ∀ d : Int, 0 ≤ d → d ≤ 32 → ∀ f, FieldsDo h f d) : OwnDo (h + 1) := by
 intro Q x u w d h0 h1 hv
 by_cases k1 : x.kind = 1
 ·exact (own_least Q h x u w d k1 hv).mono fun _ _ => OwnPost.nest (Key.legal_leaf (by omega) (by omega) (by omega) _)
 by_cases k2 : x.kind = 2
 ·exact (own_null Q h x u w d k2 hv).mono fun _ _ => OwnPost.nest (Key.legal_leaf (by omega) (by omega) (by omega) _)
 by_cases k3 : x.kind = 3
 ·exact (own_i32 Q h x u w d k3 hv).mono fun _ _ => OwnPost.nest (Key.legal_leaf (by omega) (by omega) (by omega) _)
 by_cases k4 : x.kind = 4
 ·exact (own_i64 Q h x u w d k4 hv).mono fun _ _ => OwnPost.nest (Key.legal_leaf (by omega) (by omega) (by omega) _)
 by_cases k5 : x.kind = 5
 ·exact (own_text Q h x u w d k5 hv).mono fun _ _ => OwnPost.nest (Key.legal_leaf (by omega) (by omega) (by omega) _)
 by_cases k6 : x.kind = 6
 ·exact own_doc Q h x u w d k6 hv (fun hd => HF d h0 hd x.f)
 by_cases k7 : x.kind = 7
 ·exact own_list Q h x u w d k7 hv (fun hd f => HF d h0 hd f)
 by_cases k8 : x.kind = 8
 ·exact (own_bytes Q h x u w d k8 hv).mono fun _ _ => OwnPost.nest (Key.legal_leaf (by omega) (by omega) (by omega) _)
 by_cases k9 : x.kind = 9
 ·exact (own_id Q h x u w d k9 hv).mono fun _ _ => OwnPost.nest (Key.legal_leaf (by omega) (by omega) (by omega) _)
 by_cases k10 : x.kind = 10
 ·exact (own_bool Q h x u w d k10 hv).mono fun _ _ => OwnPost.nest (Key.legal_leaf (by omega) (by omega) (by omega) _)
 by_cases k11 : x.kind = 11
 ·exact (own_date Q h x u w d k11 hv).mono fun _ _ => OwnPost.nest (Key.legal_leaf (by omega) (by omega) (by omega) _)
 by_cases k12 : x.kind = 12
 ·exact (own_greatest Q h x u w d k12 hv).mono fun _ _ => OwnPost.nest (Key.legal_leaf (by omega) (by omega) (by omega) _)
 exact (own_other Q h x u w d (fun c hc1 hc2 e => by omega) hv).mono fun _ _ ⟨v, n, h1, h2, h4⟩ => ⟨v, false, n, h1, h2, (fun z => by cases z), h4⟩
theorem own_all (HF : ∀ h, OwnDo h → ∀ d : Int, 0 ≤ d → d ≤ 32 → ∀ f, FieldsDo h f d) : ∀ h, OwnDo h
 | 0 => fun _ _ _ _ _ _ _ hv => hv.elim
 | h + 1 => own_step h (HF h (own_all HF h))
end Go.Proofs.YtngllchoiffniaaGreatDoor
end
