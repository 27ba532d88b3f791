/-
  NARROWER THAN 'FOR EVERY INPUT', by the rows' own cells (each row's printed sentence says how): SealCloses: laid · SealOpens: laid · SealTells: laid · SealRooms: laid · SealSums: laid · SealKnown: laid.
  DERIVED. THE GIVEN ROWS OF THIS SEAT. 6 by the template 'for every input the law returns true; each argument reads behind the call as it read before'; 0 by the template 'total and deterministic' (their statements: YteepbligpfljkaaDoorTotals.lean).
  GIVEN WITH THE SEED: the statements are not yours to turn. If you find one false, say at which input.
  Laid BY PROGRAM, IN A SANDBOX (cutbox-rows.mjs): the forced cells as the released guide's own fill.sh prints them over the translation 7140487de57890c7… (all of the seat's roots in one cut). By AI agents, Wed Nov 11 2026. No macro, syntax, notation, axiom, sorry.
-/
import Derived.Test.YteepbligpfljkaaDoorChecked
import GoSem.Claim
import GoSem.ClaimJoined
import GoSem.ClaimMapViews
import Derived.JoinedTies
import Derived.KernelRfl
namespace Go.Proofs.YteepbligpfljkaaDoor
/- THE CELL 'sum', in the pinned program and in every row, IS THE sha256 OF THE DUMP (.gsa) THAT YteepbligpfljkaaDoorProg.lean LOADS. Nothing in Lean hashes anything: it is a label: what it is worth is what the hold of that sum in a sandbox is worth. -/
noncomputable def Tryd.pinned : Pinned := { name := "yteepbligpfljkaadoor", sum := "7140487de57890c70fefa00446481420d0e81dfd6924cf3aca704d90519cb848", checked := Tryd.checked }
namespace Rows
def none {H : Type} : Left H := { results := [], args := [] }

/- WHAT THE LISTED PACKAGE-LEVEL VARIABLES READ AS WHEN THE CALL BEGINS. Each datum BY PROGRAM (the guide's laid-datum.mjs) off the statement by which the dump's own 'gosem.cut.vars' lays the variable. In a bare row this is a premise. The card (YteepbligpfljkaaDoorCards.lean) ties it to the program's text. -/
def laid_aqueduct_seal_quarters {H : Type} : DataW H := .agg [.lit (.int .u32 0), .lit (.int .u32 274646895), .lit (.int .u32 549293790), .lit (.int .u32 820201905), .lit (.int .u32 1098587580), .lit (.int .u32 1361435347), .lit (.int .u32 1640403810), .lit (.int .u32 1905808397), .lit (.int .u32 2197175160), .lit (.int .u32 2460548119), .lit (.int .u32 2722870694), .lit (.int .u32 2987750089), .lit (.int .u32 3280807620), .lit (.int .u32 3553878443), .lit (.int .u32 3811616794), .lit (.int .u32 4084100981)]

/-- 'aqueductlaw2.SealCloses': WHATEVER THE INPUT: true; the input reads as it did. -/
def sealClosesSpec : ChangeSpec := { name := "sealCloses", fn := fun _ => fun
  | [d1, d2, d3] => { results := [.lit (.bool true)], args := [d1, d2, d3] }
  | _ => none }
def sealClosesRow : OpenClaim := { program := "yteepbligpfljkaadoor", sum := "7140487de57890c70fefa00446481420d0e81dfd6924cf3aca704d90519cb848", func := "aqueduct/aqueductlaw2.SealCloses", spec := "sealCloses", named := ["aqueduct/seal.quarters"], apart := false, laid := [("aqueduct/seal.quarters", laid_aqueduct_seal_quarters)] }
def SealClosesSaid : Prop := sealClosesRow.holds Tryd.pinned (OpenSpec.ofChange sealClosesSpec)

/-- ITS FALSE NEIGHBOUR: 'it returns false'. Refute it at one input. -/
def sealClosesWrong : ChangeSpec := { name := "sealCloses", fn := fun _ => fun
  | [d1, d2, d3] => { results := [.lit (.bool false)], args := [d1, d2, d3] }
  | _ => none }
def SealClosesWrongFalsely : Prop := sealClosesRow.holds Tryd.pinned (OpenSpec.ofChange sealClosesWrong)

/-- 'aqueductlaw2.SealOpens': WHATEVER THE INPUT: true; the input reads as it did. -/
def sealOpensSpec : ChangeSpec := { name := "sealOpens", fn := fun _ => fun
  | [d] => { results := [.lit (.bool true)], args := [d] }
  | _ => none }
def sealOpensRow : OpenClaim := { program := "yteepbligpfljkaadoor", sum := "7140487de57890c70fefa00446481420d0e81dfd6924cf3aca704d90519cb848", func := "aqueduct/aqueductlaw2.SealOpens", spec := "sealOpens", named := ["aqueduct/seal.quarters"], apart := false, laid := [("aqueduct/seal.quarters", laid_aqueduct_seal_quarters)] }
def SealOpensSaid : Prop := sealOpensRow.holds Tryd.pinned (OpenSpec.ofChange sealOpensSpec)

/-- ITS FALSE NEIGHBOUR: 'it returns false'. Refute it at one input. -/
def sealOpensWrong : ChangeSpec := { name := "sealOpens", fn := fun _ => fun
  | [d] => { results := [.lit (.bool false)], args := [d] }
  | _ => none }
def SealOpensWrongFalsely : Prop := sealOpensRow.holds Tryd.pinned (OpenSpec.ofChange sealOpensWrong)

/-- 'aqueductlaw2.SealTells': WHATEVER THE INPUT: true; the input reads as it did. -/
def sealTellsSpec : ChangeSpec := { name := "sealTells", fn := fun _ => fun
  | [d1, d2, d3] => { results := [.lit (.bool true)], args := [d1, d2, d3] }
  | _ => none }
def sealTellsRow : OpenClaim := { program := "yteepbligpfljkaadoor", sum := "7140487de57890c70fefa00446481420d0e81dfd6924cf3aca704d90519cb848", func := "aqueduct/aqueductlaw2.SealTells", spec := "sealTells", named := ["aqueduct/seal.quarters"], apart := false, laid := [("aqueduct/seal.quarters", laid_aqueduct_seal_quarters)] }
def SealTellsSaid : Prop := sealTellsRow.holds Tryd.pinned (OpenSpec.ofChange sealTellsSpec)

/-- ITS FALSE NEIGHBOUR: 'it returns false'. Refute it at one input. -/
def sealTellsWrong : ChangeSpec := { name := "sealTells", fn := fun _ => fun
  | [d1, d2, d3] => { results := [.lit (.bool false)], args := [d1, d2, d3] }
  | _ => none }
def SealTellsWrongFalsely : Prop := sealTellsRow.holds Tryd.pinned (OpenSpec.ofChange sealTellsWrong)

/-- 'aqueductlaw2.SealRooms': WHATEVER THE INPUT: true; the input reads as it did. -/
def sealRoomsSpec : ChangeSpec := { name := "sealRooms", fn := fun _ => fun
  | [d1, d2] => { results := [.lit (.bool true)], args := [d1, d2] }
  | _ => none }
def sealRoomsRow : OpenClaim := { program := "yteepbligpfljkaadoor", sum := "7140487de57890c70fefa00446481420d0e81dfd6924cf3aca704d90519cb848", func := "aqueduct/aqueductlaw2.SealRooms", spec := "sealRooms", named := ["aqueduct/seal.quarters"], apart := false, laid := [("aqueduct/seal.quarters", laid_aqueduct_seal_quarters)] }
def SealRoomsSaid : Prop := sealRoomsRow.holds Tryd.pinned (OpenSpec.ofChange sealRoomsSpec)

/-- ITS FALSE NEIGHBOUR: 'it returns false'. Refute it at one input. -/
def sealRoomsWrong : ChangeSpec := { name := "sealRooms", fn := fun _ => fun
  | [d1, d2] => { results := [.lit (.bool false)], args := [d1, d2] }
  | _ => none }
def SealRoomsWrongFalsely : Prop := sealRoomsRow.holds Tryd.pinned (OpenSpec.ofChange sealRoomsWrong)

/-- 'aqueductlaw2.SealSums': WHATEVER THE INPUT: true; the input reads as it did. -/
def sealSumsSpec : ChangeSpec := { name := "sealSums", fn := fun _ => fun
  | [d1, d2] => { results := [.lit (.bool true)], args := [d1, d2] }
  | _ => none }
def sealSumsRow : OpenClaim := { program := "yteepbligpfljkaadoor", sum := "7140487de57890c70fefa00446481420d0e81dfd6924cf3aca704d90519cb848", func := "aqueduct/aqueductlaw2.SealSums", spec := "sealSums", named := ["aqueduct/seal.quarters"], apart := false, laid := [("aqueduct/seal.quarters", laid_aqueduct_seal_quarters)] }
def SealSumsSaid : Prop := sealSumsRow.holds Tryd.pinned (OpenSpec.ofChange sealSumsSpec)

/-- ITS FALSE NEIGHBOUR: 'it returns false'. Refute it at one input. -/
def sealSumsWrong : ChangeSpec := { name := "sealSums", fn := fun _ => fun
  | [d1, d2] => { results := [.lit (.bool false)], args := [d1, d2] }
  | _ => none }
def SealSumsWrongFalsely : Prop := sealSumsRow.holds Tryd.pinned (OpenSpec.ofChange sealSumsWrong)

/-- 'aqueductlaw2.SealKnown': WHATEVER THE INPUT: true; the input reads as it did. -/
def sealKnownSpec : ChangeSpec := { name := "sealKnown", fn := fun _ => fun
  | [] => { results := [.lit (.bool true)], args := [] }
  | _ => none }
def sealKnownRow : OpenClaim := { program := "yteepbligpfljkaadoor", sum := "7140487de57890c70fefa00446481420d0e81dfd6924cf3aca704d90519cb848", func := "aqueduct/aqueductlaw2.SealKnown", spec := "sealKnown", named := ["aqueduct/seal.quarters"], apart := false, laid := [("aqueduct/seal.quarters", laid_aqueduct_seal_quarters)] }
def SealKnownSaid : Prop := sealKnownRow.holds Tryd.pinned (OpenSpec.ofChange sealKnownSpec)

/-- ITS FALSE NEIGHBOUR: 'it returns false'. Refute it at one input. -/
def sealKnownWrong : ChangeSpec := { name := "sealKnown", fn := fun _ => fun
  | [] => { results := [.lit (.bool false)], args := [] }
  | _ => none }
def SealKnownWrongFalsely : Prop := sealKnownRow.holds Tryd.pinned (OpenSpec.ofChange sealKnownWrong)

/- THE SECOND FORM. 'bulk': how many values and letters a reading holds, each counted each time it is reached (what is shared counts as often as it is met; a slice's spare places count too). A statement '..UptoSaid' is the law's where the arguments, and the package variables that the reading takes, are together of bulk at most 1048576: NARROWER than '..Said'. Prove '..Said' where nothing that the law and all that it calls make is longer than what came in: it says more and counts as full. Else prove '..UptoSaid'. A law counts once. -/
mutual
def uptoBulk {H : Type} : DataW H → Nat
  | .lit (.string bytes) => bytes.length + 1
  | .lit _ => 1
  | .nil => 1
  | .ptr d => uptoBulk d + 1
  | .slice elems spare => uptoBulkAll elems + uptoBulkAll spare + 1
  | .agg parts => uptoBulkAll parts + 1
  | .iface _ d => uptoBulk d + 1
  | .map entries => uptoBulkEntries entries + 1
  | .held _ => 1
def uptoBulkAll {H : Type} : List (DataW H) → Nat
  | [] => 0
  | d :: r => uptoBulk d + uptoBulkAll r
def uptoBulkEntries {H : Type} : List (Lit × DataW H) → Nat
  | [] => 0
  | x :: r => uptoBulkEntry x + uptoBulkEntries r
def uptoBulkEntry {H : Type} : Lit × DataW H → Nat
  | (.string bytes, d) => bytes.length + uptoBulk d + 1
  | (_, d) => uptoBulk d + 1
 end
def uptoSmall : (H : Type) → List (DataW H) → Bool := fun _ ds => decide (uptoBulkAll ds ≤ 1048576)
def OpenSpec.upto (s : _root_.Go.ChangeSpec) : _root_.Go.OpenSpec := { _root_.Go.OpenSpec.ofChange s with cond := some uptoSmall }

/-- 'aqueductlaw2.SealCloses', WHERE WHAT IT READS IS OF BULK AT MOST 1048576: true; the input reads as it did. -/
def sealClosesUptoRow : OpenClaim := { program := "yteepbligpfljkaadoor", sum := "7140487de57890c70fefa00446481420d0e81dfd6924cf3aca704d90519cb848", func := "aqueduct/aqueductlaw2.SealCloses", spec := "sealCloses", named := ["aqueduct/seal.quarters"], apart := false, laid := [("aqueduct/seal.quarters", laid_aqueduct_seal_quarters)], narrowed := true }
def SealClosesUptoSaid : Prop := sealClosesUptoRow.holds Tryd.pinned (OpenSpec.upto sealClosesSpec)

/-- 'aqueductlaw2.SealOpens', WHERE WHAT IT READS IS OF BULK AT MOST 1048576: true; the input reads as it did. -/
def sealOpensUptoRow : OpenClaim := { program := "yteepbligpfljkaadoor", sum := "7140487de57890c70fefa00446481420d0e81dfd6924cf3aca704d90519cb848", func := "aqueduct/aqueductlaw2.SealOpens", spec := "sealOpens", named := ["aqueduct/seal.quarters"], apart := false, laid := [("aqueduct/seal.quarters", laid_aqueduct_seal_quarters)], narrowed := true }
def SealOpensUptoSaid : Prop := sealOpensUptoRow.holds Tryd.pinned (OpenSpec.upto sealOpensSpec)

/-- 'aqueductlaw2.SealTells', WHERE WHAT IT READS IS OF BULK AT MOST 1048576: true; the input reads as it did. -/
def sealTellsUptoRow : OpenClaim := { program := "yteepbligpfljkaadoor", sum := "7140487de57890c70fefa00446481420d0e81dfd6924cf3aca704d90519cb848", func := "aqueduct/aqueductlaw2.SealTells", spec := "sealTells", named := ["aqueduct/seal.quarters"], apart := false, laid := [("aqueduct/seal.quarters", laid_aqueduct_seal_quarters)], narrowed := true }
def SealTellsUptoSaid : Prop := sealTellsUptoRow.holds Tryd.pinned (OpenSpec.upto sealTellsSpec)

/-- 'aqueductlaw2.SealRooms', WHERE WHAT IT READS IS OF BULK AT MOST 1048576: true; the input reads as it did. -/
def sealRoomsUptoRow : OpenClaim := { program := "yteepbligpfljkaadoor", sum := "7140487de57890c70fefa00446481420d0e81dfd6924cf3aca704d90519cb848", func := "aqueduct/aqueductlaw2.SealRooms", spec := "sealRooms", named := ["aqueduct/seal.quarters"], apart := false, laid := [("aqueduct/seal.quarters", laid_aqueduct_seal_quarters)], narrowed := true }
def SealRoomsUptoSaid : Prop := sealRoomsUptoRow.holds Tryd.pinned (OpenSpec.upto sealRoomsSpec)

/-- 'aqueductlaw2.SealSums', WHERE WHAT IT READS IS OF BULK AT MOST 1048576: true; the input reads as it did. -/
def sealSumsUptoRow : OpenClaim := { program := "yteepbligpfljkaadoor", sum := "7140487de57890c70fefa00446481420d0e81dfd6924cf3aca704d90519cb848", func := "aqueduct/aqueductlaw2.SealSums", spec := "sealSums", named := ["aqueduct/seal.quarters"], apart := false, laid := [("aqueduct/seal.quarters", laid_aqueduct_seal_quarters)], narrowed := true }
def SealSumsUptoSaid : Prop := sealSumsUptoRow.holds Tryd.pinned (OpenSpec.upto sealSumsSpec)

/-- 'aqueductlaw2.SealKnown', WHERE WHAT IT READS IS OF BULK AT MOST 1048576: true; the input reads as it did. -/
def sealKnownUptoRow : OpenClaim := { program := "yteepbligpfljkaadoor", sum := "7140487de57890c70fefa00446481420d0e81dfd6924cf3aca704d90519cb848", func := "aqueduct/aqueductlaw2.SealKnown", spec := "sealKnown", named := ["aqueduct/seal.quarters"], apart := false, laid := [("aqueduct/seal.quarters", laid_aqueduct_seal_quarters)], narrowed := true }
def SealKnownUptoSaid : Prop := sealKnownUptoRow.holds Tryd.pinned (OpenSpec.upto sealKnownSpec)

end Rows
end Go.Proofs.YteepbligpfljkaaDoor
