/-
  DERIVED. GIVEN WITH THE SEED: THE CARDS: each row of YtdcfddiicclpeaaDoorRows.lean that lists a variable, with what it lists TIED to the program's text (the seventh form; the later family's looks); each row that meets fmt, with fmt's text TOLD by the authors' own Lean function (tested against real Go, not proved from fmt's source: count such statements apart). THE CARD IS WHAT COUNTS. Prove the row's statement (the work); the ties are given (YtdcfddiicclpeaaDoorTie.lean); close each card by the builder's one call (the guide's Derived/Test/ToyasCard.lean, 'card_holds'). Laid BY PROGRAM, IN A SANDBOX (cutbox-door.mjs). By AI agents, Wed Nov 11 2026. No macro, syntax, notation, axiom, sorry.
-/
import Derived.Test.YtdcfddiicclpeaaDoorRows
import GoSem.ClaimSeven
namespace Go.Proofs.YtdcfddiicclpeaaDoor
namespace Rows

/-- THE TIED CARD OF 'aqueductlaw6.PathReaches'. -/
def pathReachesCard : Claim7 := { stood := { row := pathReachesRow, standIns := [], harness := (true, "1878ba29849602ddf6f9c6a7104a97ac20bafc9c4b46cc7ab43adfd7b4bb8ba6"), looks := false }, kinds := [], alts := [], laidByText := true, laidKinds := [.data, .pinned], laidTests := true, laidLooks := .later }
def PathReachesCardSaid : Prop := Claim7.holds Tryd.pinned (.plain (OpenSpec.ofChange pathReachesSpec)) pathReachesCard

/-- THE TIED CARD OF 'aqueductlaw6.PathTouches'. -/
def pathTouchesCard : Claim7 := { stood := { row := pathTouchesRow, standIns := [], harness := (true, "1878ba29849602ddf6f9c6a7104a97ac20bafc9c4b46cc7ab43adfd7b4bb8ba6"), looks := false }, kinds := [], alts := [], laidByText := true, laidKinds := [.data, .pinned], laidTests := true, laidLooks := .later }
def PathTouchesCardSaid : Prop := Claim7.holds Tryd.pinned (.plain (OpenSpec.ofChange pathTouchesSpec)) pathTouchesCard

/-- THE TIED CARD OF 'aqueductlaw6.PathDocs'. -/
def pathDocsCard : Claim7 := { stood := { row := pathDocsRow, standIns := [], harness := (true, "1878ba29849602ddf6f9c6a7104a97ac20bafc9c4b46cc7ab43adfd7b4bb8ba6"), looks := false }, kinds := [], alts := [], laidByText := true, laidKinds := [.data, .pinned], laidTests := true, laidLooks := .later }
def PathDocsCardSaid : Prop := Claim7.holds Tryd.pinned (.plain (OpenSpec.ofChange pathDocsSpec)) pathDocsCard

/-- THE TIED CARD OF 'aqueductlaw6.PathLists'. -/
def pathListsCard : Claim7 := { stood := { row := pathListsRow, standIns := [], harness := (true, "1878ba29849602ddf6f9c6a7104a97ac20bafc9c4b46cc7ab43adfd7b4bb8ba6"), looks := false }, kinds := [], alts := [], laidByText := true, laidKinds := [.data, .pinned], laidTests := true, laidLooks := .later }
def PathListsCardSaid : Prop := Claim7.holds Tryd.pinned (.plain (OpenSpec.ofChange pathListsSpec)) pathListsCard

/-- THE TIED CARD OF 'aqueductlaw8.KeySorts'. -/
def keySortsCard : Claim7 := { stood := { row := keySortsRow, standIns := [], harness := (true, "1878ba29849602ddf6f9c6a7104a97ac20bafc9c4b46cc7ab43adfd7b4bb8ba6"), looks := false }, kinds := [], alts := [], laidByText := true, laidKinds := [.data, .pinned], laidTests := true, laidLooks := .later }
def KeySortsCardSaid : Prop := Claim7.holds Tryd.pinned (.plain (OpenSpec.ofChange keySortsSpec)) keySortsCard

/-- THE TIED CARD OF 'aqueductlaw8.KeyHashes'. -/
def keyHashesCard : Claim7 := { stood := { row := keyHashesRow, standIns := [], harness := (true, "1878ba29849602ddf6f9c6a7104a97ac20bafc9c4b46cc7ab43adfd7b4bb8ba6"), looks := false }, kinds := [], alts := [], laidByText := true, laidKinds := [.data, .pinned], laidTests := true, laidLooks := .later }
def KeyHashesCardSaid : Prop := Claim7.holds Tryd.pinned (.plain (OpenSpec.ofChange keyHashesSpec)) keyHashesCard

/-- THE TIED CARD OF 'aqueductlaw8.KeyAlike'. -/
def keyAlikeCard : Claim7 := { stood := { row := keyAlikeRow, standIns := [], harness := (true, "1878ba29849602ddf6f9c6a7104a97ac20bafc9c4b46cc7ab43adfd7b4bb8ba6"), looks := false }, kinds := [], alts := [], laidByText := true, laidKinds := [.data, .pinned], laidTests := true, laidLooks := .later }
def KeyAlikeCardSaid : Prop := Claim7.holds Tryd.pinned (.plain (OpenSpec.ofChange keyAlikeSpec)) keyAlikeCard

/-- THE TIED CARD OF 'aqueductlaw8.KeyKnown'. -/
def keyKnownCard : Claim7 := { stood := { row := keyKnownRow, standIns := [], harness := (true, "1878ba29849602ddf6f9c6a7104a97ac20bafc9c4b46cc7ab43adfd7b4bb8ba6"), looks := false }, kinds := [], alts := [], laidByText := true, laidKinds := [.data, .pinned], laidTests := true, laidLooks := .later }
def KeyKnownCardSaid : Prop := Claim7.holds Tryd.pinned (.plain (OpenSpec.ofChange keyKnownSpec)) keyKnownCard

/-- THE SECOND FORM's CARD OF 'aqueductlaw6.PathReaches'. -/
def pathReachesUptoCard : Claim7 := { stood := { row := pathReachesUptoRow, standIns := [], harness := (true, "1878ba29849602ddf6f9c6a7104a97ac20bafc9c4b46cc7ab43adfd7b4bb8ba6"), looks := false }, kinds := [], alts := [], laidByText := true, laidKinds := [.data, .pinned], laidTests := true, laidLooks := .later }
def PathReachesUptoCardSaid : Prop := Claim7.holds Tryd.pinned (.plain (OpenSpec.upto pathReachesSpec)) pathReachesUptoCard

/-- THE SECOND FORM's CARD OF 'aqueductlaw6.PathTouches'. -/
def pathTouchesUptoCard : Claim7 := { stood := { row := pathTouchesUptoRow, standIns := [], harness := (true, "1878ba29849602ddf6f9c6a7104a97ac20bafc9c4b46cc7ab43adfd7b4bb8ba6"), looks := false }, kinds := [], alts := [], laidByText := true, laidKinds := [.data, .pinned], laidTests := true, laidLooks := .later }
def PathTouchesUptoCardSaid : Prop := Claim7.holds Tryd.pinned (.plain (OpenSpec.upto pathTouchesSpec)) pathTouchesUptoCard

/-- THE SECOND FORM's CARD OF 'aqueductlaw6.PathDocs'. -/
def pathDocsUptoCard : Claim7 := { stood := { row := pathDocsUptoRow, standIns := [], harness := (true, "1878ba29849602ddf6f9c6a7104a97ac20bafc9c4b46cc7ab43adfd7b4bb8ba6"), looks := false }, kinds := [], alts := [], laidByText := true, laidKinds := [.data, .pinned], laidTests := true, laidLooks := .later }
def PathDocsUptoCardSaid : Prop := Claim7.holds Tryd.pinned (.plain (OpenSpec.upto pathDocsSpec)) pathDocsUptoCard

/-- THE SECOND FORM's CARD OF 'aqueductlaw6.PathLists'. -/
def pathListsUptoCard : Claim7 := { stood := { row := pathListsUptoRow, standIns := [], harness := (true, "1878ba29849602ddf6f9c6a7104a97ac20bafc9c4b46cc7ab43adfd7b4bb8ba6"), looks := false }, kinds := [], alts := [], laidByText := true, laidKinds := [.data, .pinned], laidTests := true, laidLooks := .later }
def PathListsUptoCardSaid : Prop := Claim7.holds Tryd.pinned (.plain (OpenSpec.upto pathListsSpec)) pathListsUptoCard

/-- THE SECOND FORM's CARD OF 'aqueductlaw8.KeySorts'. -/
def keySortsUptoCard : Claim7 := { stood := { row := keySortsUptoRow, standIns := [], harness := (true, "1878ba29849602ddf6f9c6a7104a97ac20bafc9c4b46cc7ab43adfd7b4bb8ba6"), looks := false }, kinds := [], alts := [], laidByText := true, laidKinds := [.data, .pinned], laidTests := true, laidLooks := .later }
def KeySortsUptoCardSaid : Prop := Claim7.holds Tryd.pinned (.plain (OpenSpec.upto keySortsSpec)) keySortsUptoCard

/-- THE SECOND FORM's CARD OF 'aqueductlaw8.KeyHashes'. -/
def keyHashesUptoCard : Claim7 := { stood := { row := keyHashesUptoRow, standIns := [], harness := (true, "1878ba29849602ddf6f9c6a7104a97ac20bafc9c4b46cc7ab43adfd7b4bb8ba6"), looks := false }, kinds := [], alts := [], laidByText := true, laidKinds := [.data, .pinned], laidTests := true, laidLooks := .later }
def KeyHashesUptoCardSaid : Prop := Claim7.holds Tryd.pinned (.plain (OpenSpec.upto keyHashesSpec)) keyHashesUptoCard

/-- THE SECOND FORM's CARD OF 'aqueductlaw8.KeyAlike'. -/
def keyAlikeUptoCard : Claim7 := { stood := { row := keyAlikeUptoRow, standIns := [], harness := (true, "1878ba29849602ddf6f9c6a7104a97ac20bafc9c4b46cc7ab43adfd7b4bb8ba6"), looks := false }, kinds := [], alts := [], laidByText := true, laidKinds := [.data, .pinned], laidTests := true, laidLooks := .later }
def KeyAlikeUptoCardSaid : Prop := Claim7.holds Tryd.pinned (.plain (OpenSpec.upto keyAlikeSpec)) keyAlikeUptoCard

/-- THE SECOND FORM's CARD OF 'aqueductlaw8.KeyKnown'. -/
def keyKnownUptoCard : Claim7 := { stood := { row := keyKnownUptoRow, standIns := [], harness := (true, "1878ba29849602ddf6f9c6a7104a97ac20bafc9c4b46cc7ab43adfd7b4bb8ba6"), looks := false }, kinds := [], alts := [], laidByText := true, laidKinds := [.data, .pinned], laidTests := true, laidLooks := .later }
def KeyKnownUptoCardSaid : Prop := Claim7.holds Tryd.pinned (.plain (OpenSpec.upto keyKnownSpec)) keyKnownUptoCard
end Rows
end Go.Proofs.YtdcfddiicclpeaaDoor
