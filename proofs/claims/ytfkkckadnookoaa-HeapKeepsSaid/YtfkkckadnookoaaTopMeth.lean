/- The heap's methods, looked up behind the pointer that heap.Interface holds. -/
import Derived.Test.YtfkkckadnookoaaRows
import Derived.WalkKit
namespace Go.Proofs.Ytfkkckadnookoaa
open Go.RowKit
/-- A method that the type itself has. -/
theorem meth_of {P : Program} {t : TypeId} {name : String} {f : FuncId} {b : Bool} (hr : (P.info? t).map (fun i => (i.methods.find? (·.name == name)).map fun m => (m.path.toList, m.func)) = some (some ([], some (f, b))))
    (n : Nat) (v : Value) (w : World) : (method (n + 1) t v name).run P w = ((receiverAt t (.val v) b (some ((name.splitOn ".").getLastD name))).run P w).andThen fun v w' => .ok (f, v) w' := by
  cases hi : P.info? t with
  | none => rw [hi] at hr; cases hr
  | some i =>
    rw [hi, Option.map_some] at hr
    cases hm : i.methods.find? (·.name == name) with
    | none => rw [hm] at hr; cases hr
    | some m =>
      rw [hm, Option.map_some] at hr
      have h1 := Option.some.inj (Option.some.inj hr)
      have hp : m.path.toList = [] := congrArg Prod.fst h1
      have hf : m.func = some (f, b) := congrArg Prod.snd h1
      have he : m.path.isEmpty = true := by rw [← Array.isEmpty_toList, hp]; rfl
      unfold method
      have hprog : Sem.run P program w = .ok P w := rfl
      simp only [Sem.run_bind, typeInfo, hprog, Result.andThen_ok, hi, Sem.run_pure, hm, hp, follow, hf, he, if_true]
section
variable (a : Addr) (v : Value) (w : World)
theorem run_last (s : String) (h : (s.splitOn ".").getLastD s = s) : some ((s.splitOn ".").getLastD s) = some s := by rw [h]
theorem load_pile (h : w.cell? a = some v) : (loadVar 43 a).run Try.prog w = .ok v w := by
  have h1 : (loadVar 43 a).run Try.prog w = (load a).run Try.prog w := by kernel_rfl
  rw [h1, run_load, h]
set_option maxRecDepth 100000 in
set_option maxHeartbeats 4000000 in
theorem meth_less (h : w.cell? a = some v) : (method 211 56 (.pointer (some a)) "Less").run Try.prog w = .ok (71, v) w := by
  rw [meth_of (P := Try.prog) (f := 71) (b := false) (by kernel_rfl)]
  have e : (receiverAt 56 (.val (.pointer (some a))) false (some (("Less".splitOn ".").getLastD "Less"))).run Try.prog w = (loadVar 43 a).run Try.prog w := by kernel_rfl
  rw [e, load_pile a v w h]; rfl
set_option maxRecDepth 100000 in
set_option maxHeartbeats 4000000 in
theorem meth_swap (h : w.cell? a = some v) : (method 211 56 (.pointer (some a)) "Swap").run Try.prog w = .ok (72, v) w := by
  rw [meth_of (P := Try.prog) (f := 72) (b := false) (by kernel_rfl)]
  have e : (receiverAt 56 (.val (.pointer (some a))) false (some (("Swap".splitOn ".").getLastD "Swap"))).run Try.prog w = (loadVar 43 a).run Try.prog w := by kernel_rfl
  rw [e, load_pile a v w h]; rfl
set_option maxRecDepth 100000 in
set_option maxHeartbeats 4000000 in
theorem meth_len (h : w.cell? a = some v) : (method 211 56 (.pointer (some a)) "Len").run Try.prog w = .ok (70, v) w := by
  rw [meth_of (P := Try.prog) (f := 70) (b := false) (by kernel_rfl)]
  have e : (receiverAt 56 (.val (.pointer (some a))) false (some (("Len".splitOn ".").getLastD "Len"))).run Try.prog w = (loadVar 43 a).run Try.prog w := by kernel_rfl
  rw [e, load_pile a v w h]; rfl
set_option maxRecDepth 100000 in
set_option maxHeartbeats 4000000 in
theorem meth_push : (method 211 56 (.pointer (some a)) "Push").run Try.prog w = .ok (74, .pointer (some a)) w := by kernel_rfl
set_option maxRecDepth 100000 in
set_option maxHeartbeats 4000000 in
theorem meth_pop : (method 211 56 (.pointer (some a)) "Pop").run Try.prog w = .ok (73, .pointer (some a)) w := by kernel_rfl
end
end Go.Proofs.Ytfkkckadnookoaa
