/-
  DERIVED. GIVEN WITH THE SEED: THE CARDS: each row of YtcabaecbmkgclaaGreatDoorRows.lean that lists a variable, with what it lists TIED to the program's text (the seventh form; the later family's looks); each row that meets fmt, with fmt's text TOLD by the authors' own Lean function (tested against real Go, not proved from fmt's source: count such statements apart). THE CARD IS WHAT COUNTS. Prove the row's statement (the work); the ties are given (YtcabaecbmkgclaaGreatDoorTie.lean); close each card by the builder's one call (the guide's Derived/Test/ToyasCard.lean, 'card_holds'). Laid BY PROGRAM, IN A SANDBOX (cutbox-door.mjs). By AI agents, Wed Nov 11 2026. No macro, syntax, notation, axiom, sorry.
-/
import Derived.Test.YtcabaecbmkgclaaGreatDoorRows
import GoSem.ClaimSeven
namespace Go.Proofs.YtcabaecbmkgclaaGreatDoor
namespace Rows

/-- THE TIED CARD OF 'benzollaw.Parses'. -/
def parsesCard : Claim7 := { stood := { row := parsesRow, standIns := [], harness := (true, "95afee5302ae7b7f3ce42c7cde4ea3fd28b371cfc9d62d4d3ccc68a5ef39b0ed"), looks := false }, kinds := [], alts := [], laidByText := true, laidKinds := [.data, .pinned], laidTests := true, laidLooks := .later }
def ParsesCardSaid : Prop := Claim7.holds Tryz.pinned (.plain (OpenSpec.ofChange parsesSpec)) parsesCard

/-- THE TIED CARD OF 'benzollaw.Matches'. -/
def matchesCard : Claim7 := { stood := { row := matchesRow, standIns := [], harness := (true, "95afee5302ae7b7f3ce42c7cde4ea3fd28b371cfc9d62d4d3ccc68a5ef39b0ed"), looks := false }, kinds := [], alts := [], laidByText := true, laidKinds := [.data, .pinned], laidTests := true, laidLooks := .later }
def MatchesCardSaid : Prop := Claim7.holds Tryz.pinned (.plain (OpenSpec.ofChange matchesSpec)) matchesCard

/-- THE TIED CARD OF 'benzollaw.Sets'. -/
def setsCard : Claim7 := { stood := { row := setsRow, standIns := [], harness := (true, "95afee5302ae7b7f3ce42c7cde4ea3fd28b371cfc9d62d4d3ccc68a5ef39b0ed"), looks := false }, kinds := [], alts := [], laidByText := true, laidKinds := [.data, .pinned], laidTests := true, laidLooks := .later }
def SetsCardSaid : Prop := Claim7.holds Tryz.pinned (.plain (OpenSpec.ofChange setsSpec)) setsCard

/-- THE TIED CARD OF 'benzolkeep.Annulene'. -/
def annuleneCard : Claim7 := { stood := { row := annuleneRow, standIns := [], harness := (true, "95afee5302ae7b7f3ce42c7cde4ea3fd28b371cfc9d62d4d3ccc68a5ef39b0ed"), looks := false }, kinds := [], alts := [], laidByText := true, laidKinds := [.data, .pinned], laidTests := true, laidLooks := .later }
def AnnuleneCardSaid : Prop := Claim7.holds Tryz.pinned (.plain (OpenSpec.ofChange annuleneSpec)) annuleneCard

/-- THE TIED CARD OF 'benzolkeep.Fused'. -/
def fusedCard : Claim7 := { stood := { row := fusedRow, standIns := [], harness := (true, "95afee5302ae7b7f3ce42c7cde4ea3fd28b371cfc9d62d4d3ccc68a5ef39b0ed"), looks := false }, kinds := [], alts := [], laidByText := true, laidKinds := [.data, .pinned], laidTests := true, laidLooks := .later }
def FusedCardSaid : Prop := Claim7.holds Tryz.pinned (.plain (OpenSpec.ofChange fusedSpec)) fusedCard

/-- THE TIED CARD OF 'benzolkeep.Sound'. -/
def soundCard : Claim7 := { stood := { row := soundRow, standIns := [], harness := (true, "95afee5302ae7b7f3ce42c7cde4ea3fd28b371cfc9d62d4d3ccc68a5ef39b0ed"), looks := false }, kinds := [], alts := [], laidByText := true, laidKinds := [.data, .pinned], laidTests := true, laidLooks := .later }
def SoundCardSaid : Prop := Claim7.holds Tryz.pinned (.plain (OpenSpec.ofChange soundSpec)) soundCard

/-- THE TIED CARD OF 'benzolkeep.Apart'. -/
def apartCard : Claim7 := { stood := { row := apartRow, standIns := [], harness := (true, "95afee5302ae7b7f3ce42c7cde4ea3fd28b371cfc9d62d4d3ccc68a5ef39b0ed"), looks := false }, kinds := [], alts := [], laidByText := true, laidKinds := [.data, .pinned], laidTests := true, laidLooks := .later }
def ApartCardSaid : Prop := Claim7.holds Tryz.pinned (.plain (OpenSpec.ofChange apartSpec)) apartCard

/-- THE TIED CARD OF 'benzollaw.All'. -/
def allCard : Claim7 := { stood := { row := allRow, standIns := [], harness := (true, "95afee5302ae7b7f3ce42c7cde4ea3fd28b371cfc9d62d4d3ccc68a5ef39b0ed"), looks := false }, kinds := [], alts := [], laidByText := true, laidKinds := [.data, .pinned], laidTests := true, laidLooks := .later }
def AllCardSaid : Prop := Claim7.holds Tryz.pinned (.plain (OpenSpec.ofChange allSpec)) allCard

/-- THE SECOND FORM's CARD OF 'benzollaw.Parses'. -/
def parsesUptoCard : Claim7 := { stood := { row := parsesUptoRow, standIns := [], harness := (true, "95afee5302ae7b7f3ce42c7cde4ea3fd28b371cfc9d62d4d3ccc68a5ef39b0ed"), looks := false }, kinds := [], alts := [], laidByText := true, laidKinds := [.data, .pinned], laidTests := true, laidLooks := .later }
def ParsesUptoCardSaid : Prop := Claim7.holds Tryz.pinned (.plain (OpenSpec.upto parsesSpec)) parsesUptoCard

/-- THE SECOND FORM's CARD OF 'benzollaw.Matches'. -/
def matchesUptoCard : Claim7 := { stood := { row := matchesUptoRow, standIns := [], harness := (true, "95afee5302ae7b7f3ce42c7cde4ea3fd28b371cfc9d62d4d3ccc68a5ef39b0ed"), looks := false }, kinds := [], alts := [], laidByText := true, laidKinds := [.data, .pinned], laidTests := true, laidLooks := .later }
def MatchesUptoCardSaid : Prop := Claim7.holds Tryz.pinned (.plain (OpenSpec.upto matchesSpec)) matchesUptoCard

/-- THE SECOND FORM's CARD OF 'benzollaw.Sets'. -/
def setsUptoCard : Claim7 := { stood := { row := setsUptoRow, standIns := [], harness := (true, "95afee5302ae7b7f3ce42c7cde4ea3fd28b371cfc9d62d4d3ccc68a5ef39b0ed"), looks := false }, kinds := [], alts := [], laidByText := true, laidKinds := [.data, .pinned], laidTests := true, laidLooks := .later }
def SetsUptoCardSaid : Prop := Claim7.holds Tryz.pinned (.plain (OpenSpec.upto setsSpec)) setsUptoCard

/-- THE SECOND FORM's CARD OF 'benzolkeep.Annulene'. -/
def annuleneUptoCard : Claim7 := { stood := { row := annuleneUptoRow, standIns := [], harness := (true, "95afee5302ae7b7f3ce42c7cde4ea3fd28b371cfc9d62d4d3ccc68a5ef39b0ed"), looks := false }, kinds := [], alts := [], laidByText := true, laidKinds := [.data, .pinned], laidTests := true, laidLooks := .later }
def AnnuleneUptoCardSaid : Prop := Claim7.holds Tryz.pinned (.plain (OpenSpec.upto annuleneSpec)) annuleneUptoCard

/-- THE SECOND FORM's CARD OF 'benzolkeep.Fused'. -/
def fusedUptoCard : Claim7 := { stood := { row := fusedUptoRow, standIns := [], harness := (true, "95afee5302ae7b7f3ce42c7cde4ea3fd28b371cfc9d62d4d3ccc68a5ef39b0ed"), looks := false }, kinds := [], alts := [], laidByText := true, laidKinds := [.data, .pinned], laidTests := true, laidLooks := .later }
def FusedUptoCardSaid : Prop := Claim7.holds Tryz.pinned (.plain (OpenSpec.upto fusedSpec)) fusedUptoCard

/-- THE SECOND FORM's CARD OF 'benzolkeep.Sound'. -/
def soundUptoCard : Claim7 := { stood := { row := soundUptoRow, standIns := [], harness := (true, "95afee5302ae7b7f3ce42c7cde4ea3fd28b371cfc9d62d4d3ccc68a5ef39b0ed"), looks := false }, kinds := [], alts := [], laidByText := true, laidKinds := [.data, .pinned], laidTests := true, laidLooks := .later }
def SoundUptoCardSaid : Prop := Claim7.holds Tryz.pinned (.plain (OpenSpec.upto soundSpec)) soundUptoCard

/-- THE SECOND FORM's CARD OF 'benzolkeep.Apart'. -/
def apartUptoCard : Claim7 := { stood := { row := apartUptoRow, standIns := [], harness := (true, "95afee5302ae7b7f3ce42c7cde4ea3fd28b371cfc9d62d4d3ccc68a5ef39b0ed"), looks := false }, kinds := [], alts := [], laidByText := true, laidKinds := [.data, .pinned], laidTests := true, laidLooks := .later }
def ApartUptoCardSaid : Prop := Claim7.holds Tryz.pinned (.plain (OpenSpec.upto apartSpec)) apartUptoCard

/-- THE SECOND FORM's CARD OF 'benzollaw.All'. -/
def allUptoCard : Claim7 := { stood := { row := allUptoRow, standIns := [], harness := (true, "95afee5302ae7b7f3ce42c7cde4ea3fd28b371cfc9d62d4d3ccc68a5ef39b0ed"), looks := false }, kinds := [], alts := [], laidByText := true, laidKinds := [.data, .pinned], laidTests := true, laidLooks := .later }
def AllUptoCardSaid : Prop := Claim7.holds Tryz.pinned (.plain (OpenSpec.upto allSpec)) allUptoCard
end Rows
end Go.Proofs.YtcabaecbmkgclaaGreatDoor
