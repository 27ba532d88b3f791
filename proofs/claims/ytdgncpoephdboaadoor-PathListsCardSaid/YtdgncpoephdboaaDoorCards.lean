/-
  DERIVED. GIVEN WITH THE SEED: THE CARDS: each row of YtdgncpoephdboaaDoorRows.lean that lists a variable, with what it lists TIED to the program's text (the seventh form; the later family's looks); each row that meets fmt, with fmt's text TOLD by the authors' own Lean function (tested against real Go, not proved from fmt's source: count such statements apart). THE CARD IS WHAT COUNTS. Prove the row's statement (the work); the ties are given (YtdgncpoephdboaaDoorTie.lean); close each card by the builder's one call (the guide's Derived/Test/ToyasCard.lean, 'card_holds'). Laid BY PROGRAM, IN A SANDBOX (cutbox-door.mjs). By AI agents, Wed Nov 11 2026. No macro, syntax, notation, axiom, sorry.
-/
import Derived.Test.YtdgncpoephdboaaDoorRows
import GoSem.ClaimSeven
namespace Go.Proofs.YtdgncpoephdboaaDoor
namespace Rows

/-- THE TIED CARD OF 'aqueductlaw6.PathDocs'. -/
def pathDocsCard : Claim7 := { stood := { row := pathDocsRow, standIns := [], harness := (true, "f3a4e10a425abb358bbfdb340bf66923a433981921f8f56ee2d0c4a3d4a0a27f"), looks := false }, kinds := [], alts := [], laidByText := true, laidKinds := [.data, .pinned], laidTests := true, laidLooks := .later }
def PathDocsCardSaid : Prop := Claim7.holds Tryd.pinned (.plain (OpenSpec.ofChange pathDocsSpec)) pathDocsCard

/-- THE TIED CARD OF 'aqueductlaw6.PathLists'. -/
def pathListsCard : Claim7 := { stood := { row := pathListsRow, standIns := [], harness := (true, "f3a4e10a425abb358bbfdb340bf66923a433981921f8f56ee2d0c4a3d4a0a27f"), looks := false }, kinds := [], alts := [], laidByText := true, laidKinds := [.data, .pinned], laidTests := true, laidLooks := .later }
def PathListsCardSaid : Prop := Claim7.holds Tryd.pinned (.plain (OpenSpec.ofChange pathListsSpec)) pathListsCard

/-- THE TIED CARD OF 'aqueductlaw8.KeyAlike'. -/
def keyAlikeCard : Claim7 := { stood := { row := keyAlikeRow, standIns := [], harness := (true, "f3a4e10a425abb358bbfdb340bf66923a433981921f8f56ee2d0c4a3d4a0a27f"), looks := false }, kinds := [], alts := [], laidByText := true, laidKinds := [.data, .pinned], laidTests := true, laidLooks := .later }
def KeyAlikeCardSaid : Prop := Claim7.holds Tryd.pinned (.plain (OpenSpec.ofChange keyAlikeSpec)) keyAlikeCard

/-- THE SECOND FORM's CARD OF 'aqueductlaw6.PathDocs'. -/
def pathDocsUptoCard : Claim7 := { stood := { row := pathDocsUptoRow, standIns := [], harness := (true, "f3a4e10a425abb358bbfdb340bf66923a433981921f8f56ee2d0c4a3d4a0a27f"), looks := false }, kinds := [], alts := [], laidByText := true, laidKinds := [.data, .pinned], laidTests := true, laidLooks := .later }
def PathDocsUptoCardSaid : Prop := Claim7.holds Tryd.pinned (.plain (OpenSpec.upto pathDocsSpec)) pathDocsUptoCard

/-- THE SECOND FORM's CARD OF 'aqueductlaw6.PathLists'. -/
def pathListsUptoCard : Claim7 := { stood := { row := pathListsUptoRow, standIns := [], harness := (true, "f3a4e10a425abb358bbfdb340bf66923a433981921f8f56ee2d0c4a3d4a0a27f"), looks := false }, kinds := [], alts := [], laidByText := true, laidKinds := [.data, .pinned], laidTests := true, laidLooks := .later }
def PathListsUptoCardSaid : Prop := Claim7.holds Tryd.pinned (.plain (OpenSpec.upto pathListsSpec)) pathListsUptoCard

/-- THE SECOND FORM's CARD OF 'aqueductlaw8.KeyAlike'. -/
def keyAlikeUptoCard : Claim7 := { stood := { row := keyAlikeUptoRow, standIns := [], harness := (true, "f3a4e10a425abb358bbfdb340bf66923a433981921f8f56ee2d0c4a3d4a0a27f"), looks := false }, kinds := [], alts := [], laidByText := true, laidKinds := [.data, .pinned], laidTests := true, laidLooks := .later }
def KeyAlikeUptoCardSaid : Prop := Claim7.holds Tryd.pinned (.plain (OpenSpec.upto keyAlikeSpec)) keyAlikeUptoCard
end Rows
end Go.Proofs.YtdgncpoephdboaaDoor
